import PyProof.Rows.All
import Wide.All
import OpenK.AllK
import Wide.FinOn
import Lean
import PyProof.EqAt
import PyProof.EqKinds
import PyProof.TupleCall
import PyProof.P3In
import PyProof.NeData
import KE.KMinKey
import PyProof.Rows.CallKwBuiltin
import PyProof.LayNew
import PyProof.EnumFor
import PyProof.EnumMake
import PyProof.EnumStmt
import KE.KRevIter
import KE.KRevSl
import PyProof.StationsW
import PyProof.RulesAs
import KE.KTryMore
import PyProof.Rows.TopTwo
import PyProof.NsDelKeeps
import PyProof.ExcArgsOwn
import KE.KIsAll
import PyProof.AutoListH
import PyProof.SetRoads
import PyProof.SetNew
import PyProof.ListRange
import PyProof.Rows.TupDisplay
import PyProof.Draws
import PyProof.ZipIter
import PyProof.TupleIter
import PyProof.AttrMissSeq
import KE.KDictOf
import PySem.Challenge.RW_waithands_k40_great_yards
set_option linter.all false
abbrev AA:=PySem.Value
abbrev AB:=PySem.Shared
abbrev AC:=PySem.Program
section
open PySem
abbrev AD:List Str:=["row","hands","newest"]
abbrev AE:List Str:=["rule","hands","newest"]
abbrev AF:List Str:=["post","hands","newest"]
abbrev AG:List Str:=["post","hands","newest","free"]
abbrev AH:List Str:=["ready","called","many"]
abbrev AI:List Str:=["post","stand","change"]
abbrev AJ:List Str:=["post","stand","come","free"]
abbrev AK:List Str:=["_law_script","_law_k"]
abbrev AL:List Str:=["_law_tape_here","_law_many"]
abbrev AM:List Str:=["_law_tape_here"]
abbrev AN:List Str:=["_law_tape_here","_law_small"]
abbrev AO:List Str:=["total","posts"]
abbrev AQ:List Str:=["onward","behind"]
abbrev AR:List Str:=["total","posts","stands"]
abbrev AS:List Str:=["name","post","onward"]
abbrev AT:List Str:=["self","total","posts","stands"]
abbrev AU:List Str:=["self","names"]
abbrev AV:List Str:=["self"]
abbrev AW:List Str:=["self","name"]
abbrev AX:List Str:=["_law_post_here","_law_ahead","_law_behind","_law_row_here","_law_free"]
abbrev AY:List Str:=["_law_yard","_law_total","_law_rows_here","_law_line","_law_ahead"]
abbrev AZ:List Str:=["_law_tapes","_law_many","_law_beats"]
abbrev Ap:List Str:=["_law_name","_law_post_here","_law_onward"]
end
section
open PySem PySem.Spec PyProof.Rows
abbrev aN:=@wpAny_bind
abbrev cT:=@List.getElem?_eq_getElem
abbrev bN:=@List.length_map
abbrev cA:=@List.getElem?_map
abbrev fB:=@Heap.get?_push_of_some
abbrev ig:=@List.getD_eq_getElem?_getD
abbrev gB:=@lookup_relabel_local
abbrev jF:=@List.getElem?_eq_some_iff
abbrev bV:=@wpAny_pure
abbrev fV:=@List.mem_singleton
abbrev cI:=@List.mem_cons_of_mem
abbrev bB:=@List.mem_cons
abbrev cC:=@List.length_append
abbrev bw:=@Nat.le_refl
abbrev cO:=@Heap.get?_push_size
abbrev bH:=@Heap.lt_size
abbrev dC:=@List.mem_of_getElem?
abbrev dg:=@List.mem_cons_self
abbrev dM:=@List.not_mem_nil
abbrev fC:=@List.size_toArray
abbrev d_:=@List.mem_append
abbrev iI:=@List.mem_append_right
abbrev aX:=@if_neg
abbrev fU:=@List.length_cons
abbrev bh:=@if_pos
abbrev dJ:=@Nat.ne_of_lt
abbrev dZ:=@List.mem_map
abbrev fQ:=@Heap.size_push
abbrev gJ:=@List.map_append
abbrev ju:=@Bool.false_ne_true
abbrev gH:=@List.map_cons
abbrev pM:=@List.length_replicate
abbrev kI:=@List.length_take
abbrev vy:=@List.getElem?_append_right
abbrev fP:=@wpAny_field
abbrev lR:=@List.lookup_cons
abbrev km:=@List.nodup_cons
abbrev gC:=@Nat.zero_le
abbrev pL:=@Nat.lt_of_lt_of_le
abbrev mZ:=@List.getElem_mem
abbrev iH:=@Nat.le_trans
abbrev mY:=@decide_eq_false
abbrev mX:=@List.length_nil
abbrev pK:=@List.all_eq_true
abbrev zj:=@List.getElem?_append_left
abbrev mW:=@wpAny_seqItems
abbrev tY:=@Bool.false_eq_true
abbrev rJ:=@List.take_length
abbrev qF:=@List.append_nil
abbrev zg:=@Heap.get?_update_other
abbrev vq:=@wpAny_setField_rec
abbrev vm:=@wpAny_Call_Name_kw
abbrev pJ:=@wpAny_holding
abbrev vh:=@List.nodup_append
abbrev nY:=@Nat.le_of_lt
abbrev rH:=@decide_eq_true
abbrev xG:=@wpAny_newObj_type
abbrev xF:=@Int.toNat_natCast
abbrev FT:=@wpAny_callSpecial?_slot
abbrev vg:=@List.nil_append
abbrev Cv:=@List.replicate_succ
abbrev zf:=@wpAny_pyIter_list
abbrev xx:=@Int.emod_nonneg
abbrev nW:=@wpAny_mono
abbrev Cu:=@Int.emod_lt_of_pos
abbrev zb:=@wpAny_call_entry
abbrev FQ:=@List.mem_of_mem_take
abbrev vf:=@Nat.lt_irrefl
abbrev Cr:=@of_decide_eq_true
abbrev Cq:=@Nat.le_of_succ_le
abbrev za:=@List.forIn_cons
abbrev M6:=@List.mem_or_eq_of_mem_set
abbrev M5:=@List.drop_eq_getElem_cons
abbrev Cp:=@List.length_drop
abbrev vd:=@List.map_nil
abbrev FP:=@Nat.lt_succ_of_lt
abbrev FN:=@List.append_assoc
abbrev xu:=@Nat.ne_of_gt
abbrev y_:=@List.sum_cons
abbrev FJ:=@Nat.lt_succ_self
abbrev Fz:=@List.drop_length
abbrev Fy:=@List.cons_append
abbrev Fx:=@Bool.and_eq_true
abbrev M4:=@Heap.get?_update_self
abbrev IW:=@wpAny_truthy_bool
abbrev pI:=@congrArg
abbrev M3:=@List.mem_append_left
abbrev IV:=@List.flatten_cons
abbrev Cm:=@wpAny_standAt
abbrev Qq:=@Option.isSome_iff_exists
abbrev yZ:=@wpAny_of_eq
abbrev yX:=@wpAny_letGo
abbrev MT:=@of_decide_eq_false
abbrev Qp:=@List.take_of_length_le
abbrev Fw:=@wpAny_onRaise
abbrev Fv:=@Bool.not_true
abbrev yW:=@wpAny_rule
abbrev Gj:=@List.getElem?_set_ne
abbrev xN:=@List.forIn_nil
abbrev xM:=@Bool.not_false
abbrev Ar:=@Nat.le_add_right
abbrev Kz:=@List.getElem?_zip_eq_some
abbrev xK:=@List.any_cons
abbrev Aq:=@List.of_mem_zip
abbrev Ao:=@List.find?_cons
abbrev Gh:=@List.getElem?_drop
abbrev Ky:=@wpAny_getItem_str_slice
abbrev Kw:=@List.getElem?_replicate
abbrev Kv:=@List.getElem?_cons_zero
abbrev An:=@wpAny_tryCatch
abbrev Ku:=@Option.map_eq_some_iff
abbrev xJ:=@Nat.sub_self
abbrev xH:=@List.map_map
abbrev Ks:=@List.getElem?_set_self
abbrev Kr:=@List.mem_iff_getElem?
abbrev Gg:=@wpAny_pyIter_zip
abbrev Am:=@wpAny_attempt
abbrev Kq:=@List.mem_of_mem_drop
abbrev Kp:=@List.getElem?_of_mem
abbrev Qu:=@List.drop_append_of_le_length
abbrev Gf:=@wpAny_passesOwn
abbrev Ge:=@Nat.min_le_left
abbrev Gd:=@List.mem_filter
abbrev Gb:=@List.length_zip
abbrev Ga:=@Bool.eq_iff_iff
abbrev F_:=@wpAny_bindName
abbrev Al:=@Nat.le_succ
abbrev Ak:=@Int.le_refl
abbrev Ko:=@List.zipIdx_cons
abbrev Qt:=@List.getElem?_cons_succ
abbrev FZ:=@wpAny_typeOf
abbrev Qs:=@wpAny_pyIter_rangeiter
abbrev FW:=@Nat.lt_trans
end
set_option compiler.extract_closed false
theorem z_a(h:1=1:=by rfl):1=1:=h
theorem z_b(h:1=1:=by decide):1=1:=h
theorem z_c(h:1=1:=by intro _;rfl):1=1:=h
theorem z_d(h:1=1:=by walk_at "h"):1=1:=h
theorem z_e(h:1=1:=by exact ND):1=1:=h
theorem z_f(h:1=1:=by walk_at "o"):1=1:=h
theorem z_g(h:1=1:=by walk_at "l"):1=1:=h
theorem z_h(h:1=1:=by decide +kernel):1=1:=h
local macro_rules | `(~~~$x)=>`(autoParam $x z_a._auto_1)
local macro_rules | `($x⁻¹)=>`(autoParam $x z_b._auto_1)
local macro_rules | `(‹$x›)=>`(autoParam $x z_c._auto_1)
open PySem.W (instObj methodObj Frag lookIn plainGet hasDictIn findIn handedIn plainGet_of isFn plainOver takerIn makesIn emptyDict specialIn keepIn mroIn kitOne kia_one kitx_list kitx_dict callWith_K methodCall_KW cellsFrom_some fnOf codeIn codeRec_of excIn findObj subIn nsIn mg_of clsIn exmOne mg_none_of)
local macro_rules | `(tactic| walk_at "l")=>`(tactic| (rintro vs H Q E h; first | (obtain⟨_,h,_⟩:=h;subst h;rfl)|(obtain⟨_,_,h,_⟩:=h;subst h;rfl)|(obtain⟨_,_,_,h,_⟩:=h;subst h;rfl)|(obtain⟨_,_,_,_,h,_⟩:=h;subst h;rfl)|(obtain⟨_,_,_,_,_,h,_⟩:=h;subst h;rfl)|(obtain⟨_,_,_,_,_,_,h,_⟩:=h;subst h;rfl)|(obtain⟨_,_,_,_,_,_,_,h,_⟩:=h;subst h;rfl)|(obtain⟨_,_,_,_,_,_,_,_,h,_⟩:=h;subst h;rfl)|(obtain⟨_,_,_,_,_,_,_,_,_,h,_⟩:=h;subst h;rfl)|(obtain⟨_,_,_,_,_,_,_,_,_,_,h,_⟩:=h;subst h;rfl)|(obtain⟨_,_,_,_,_,_,_,_,_,_,_,h,_⟩:=h;subst h;rfl)|(obtain⟨_,_,_,_,_,_,_,_,_,_,_,_,h,_⟩:=h;subst h;rfl)))
local macro_rules | `(tactic| walk_at "o")=>`(tactic| first | exact Or.inl rfl | exact Or.inr rfl)
local macro_rules | `(tactic| walk_at "h")=>`(tactic| first | exact .inl rfl | exact .inr rfl | assumption)
local macro_rules | `(tactic| walk_at "v")=>`(tactic| first | exact Or.inl rfl | exact Or.inr (Or.inl rfl) | exact Or.inr (Or.inr rfl))
local macro_rules | `(tactic| omega)=>`(tactic| first | lia | omega (splitDisjunctions:=true))
local macro_rules | `(⋯)=>`(by decide)
local macro_rules | `(∅)=>`(by omega)
set_option hygiene false in
local macro_rules | `(tactic| symm)=>`(tactic| (refine .mk ?_;intro ae s σ H))
set_option hygiene false in
local macro_rules | `((0:))=>`(fun cdv A outer s H vs Q E hr h=>?_)
namespace _L
theorem jM{α0 α1:Sort _}{p:α0->α1->Prop}(x0:α0)(x1:α1)(h:p x0 x1):∃x0 x1,p x0 x1:=⟨x0,x1,h⟩
theorem Eg{α0 α1 α2:Sort _}{p:α0->α1->α2->Prop}(x0:α0)(x1:α1)(x2:α2)(h:p x0 x1 x2):∃x0 x1 x2,p x0 x1 x2:=⟨x0,x1,x2,h⟩
theorem uw{α0 α1 α2 α3:Sort _}{p:α0->α1->α2->α3->Prop}(x0:α0)(x1:α1)(x2:α2)(x3:α3)(h:p x0 x1 x2 x3):∃x0 x1 x2 x3,p x0 x1 x2 x3:=⟨x0,x1,x2,x3,h⟩
theorem BW{α0 α1 α2 α3 α4:Sort _}{p:α0->α1->α2->α3->α4->Prop}(x0:α0)(x1:α1)(x2:α2)(x3:α3)(x4:α4)(h:p x0 x1 x2 x3 x4):∃x0 x1 x2 x3 x4,p x0 x1 x2 x3 x4:=⟨x0,x1,x2,x3,x4,h⟩
theorem xi6{α0 α1 α2 α3 α4 α5:Sort _}{p:α0->α1->α2->α3->α4->α5->Prop}(x0:α0)(x1:α1)(x2:α2)(x3:α3)(x4:α4)(x5:α5)(h:p x0 x1 x2 x3 x4 x5):∃x0 x1 x2 x3 x4 x5,p x0 x1 x2 x3 x4 x5:=⟨x0,x1,x2,x3,x4,x5,h⟩
theorem Sd{α0 α1 α2 α3 α4 α5 α6:Sort _}{p:α0->α1->α2->α3->α4->α5->α6->Prop}(x0:α0)(x1:α1)(x2:α2)(x3:α3)(x4:α4)(x5:α5)(x6:α6)(h:p x0 x1 x2 x3 x4 x5 x6):∃x0 x1 x2 x3 x4 x5 x6,p x0 x1 x2 x3 x4 x5 x6:=⟨x0,x1,x2,x3,x4,x5,x6,h⟩
theorem xi9{α0 α1 α2 α3 α4 α5 α6 α7 α8:Sort _}{p:α0->α1->α2->α3->α4->α5->α6->α7->α8->Prop}(x0:α0)(x1:α1)(x2:α2)(x3:α3)(x4:α4)(x5:α5)(x6:α6)(x7:α7)(x8:α8)(h:p x0 x1 x2 x3 x4 x5 x6 x7 x8):∃x0 x1 x2 x3 x4 x5 x6 x7 x8,p x0 x1 x2 x3 x4 x5 x6 x7 x8:=⟨x0,x1,x2,x3,x4,x5,x6,x7,x8,h⟩
theorem Z8{α0 α1 α2 α3 α4 α5 α6 α7 α8 α9:Sort _}{p:α0->α1->α2->α3->α4->α5->α6->α7->α8->α9->Prop}(x0:α0)(x1:α1)(x2:α2)(x3:α3)(x4:α4)(x5:α5)(x6:α6)(x7:α7)(x8:α8)(x9:α9)(h:p x0 x1 x2 x3 x4 x5 x6 x7 x8 x9):∃x0 x1 x2 x3 x4 x5 x6 x7 x8 x9,p x0 x1 x2 x3 x4 x5 x6 x7 x8 x9:=⟨x0,x1,x2,x3,x4,x5,x6,x7,x8,x9,h⟩
theorem Z7{α0 α1 α2 α3 α4 α5 α6 α7 α8 α9 Bx Bw:Sort _}{p:α0->α1->α2->α3->α4->α5->α6->α7->α8->α9->Bx->Bw->Prop}(x0:α0)(x1:α1)(x2:α2)(x3:α3)(x4:α4)(x5:α5)(x6:α6)(x7:α7)(x8:α8)(x9:α9)(x10:Bx)(x11:Bw)(h:p x0 x1 x2 x3 x4 x5 x6 x7 x8 x9 x10 x11):∃x0 x1 x2 x3 x4 x5 x6 x7 x8 x9 x10 x11,p x0 x1 x2 x3 x4 x5 x6 x7 x8 x9 x10 x11:=⟨x0,x1,x2,x3,x4,x5,x6,x7,x8,x9,x10,x11,h⟩
theorem ac6{α0 α1 α2 α3 α4 α5 α6 α7 α8 α9 Bx Bw ZG ZF:Sort _}{p:α0->α1->α2->α3->α4->α5->α6->α7->α8->α9->Bx->Bw->ZG->ZF->Prop}(x0:α0)(x1:α1)(x2:α2)(x3:α3)(x4:α4)(x5:α5)(x6:α6)(x7:α7)(x8:α8)(x9:α9)(x10:Bx)(x11:Bw)(x12:ZG)(x13:ZF)(h:p x0 x1 x2 x3 x4 x5 x6 x7 x8 x9 x10 x11 x12 x13):∃x0 x1 x2 x3 x4 x5 x6 x7 x8 x9 x10 x11 x12 x13,p x0 x1 x2 x3 x4 x5 x6 x7 x8 x9 x10 x11 x12 x13:=⟨x0,x1,x2,x3,x4,x5,x6,x7,x8,x9,x10,x11,x12,x13,h⟩
theorem Qy{p0 p1 p2 G:Prop}(h:p0/\p1/\p2)(k:p0->p1->p2->G):G:=by
 obtain⟨h0,h1,h2⟩:=h;exact k h0 h1 h2
theorem aaG{p0 p1 p2 p3 G:Prop}(h:p0/\p1/\p2/\p3)(k:p0->p1->p2->p3->G):G:=by
 obtain⟨h0,h1,h2,h3⟩:=h;exact k h0 h1 h2 h3
theorem xP{p0 p1 p2 p3 p4 G:Prop}(h:p0/\p1/\p2/\p3/\p4)(k:p0->p1->p2->p3->p4->G):G:=by
 obtain⟨h0,h1,h2,h3,h4⟩:=h;exact k h0 h1 h2 h3 h4
theorem nZ{p0 p1 p2 p3 p4 p5 G:Prop}(h:p0/\p1/\p2/\p3/\p4/\p5)(k:p0->p1->p2->p3->p4->p5->G):G:=by
 obtain⟨h0,h1,h2,h3,h4,h5⟩:=h;exact k h0 h1 h2 h3 h4 h5
theorem xO{α0:Sort _}{p0 p1:α0->Prop}{G:Prop}(h:∃x0,p0 x0/\p1 x0)(k:∀x0,p0 x0->p1 x0->G):G:=by
 obtain⟨x0,h0,h1⟩:=h;exact k x0 h0 h1
theorem mL{α0:Sort _}{p0 p1 p2:α0->Prop}{G:Prop}(h:∃x0,p0 x0/\p1 x0/\p2 x0)(k:∀x0,p0 x0->p1 x0->p2 x0->G):G:=by
 obtain⟨x0,h0,h1,h2⟩:=h;exact k x0 h0 h1 h2
theorem aaF{α0:Sort _}{p0 p1 p2 p3:α0->Prop}{G:Prop}(h:∃x0,p0 x0/\p1 x0/\p2 x0/\p3 x0)(k:∀x0,p0 x0->p1 x0->p2 x0->p3 x0->G):G:=by
 obtain⟨x0,h0,h1,h2,h3⟩:=h;exact k x0 h0 h1 h2 h3
theorem aaE{α0:Sort _}{p0 p1 p2 p3 p4:α0->Prop}{G:Prop}(h:∃x0,p0 x0/\p1 x0/\p2 x0/\p3 x0/\p4 x0)(k:∀x0,p0 x0->p1 x0->p2 x0->p3 x0->p4 x0->G):G:=by
 obtain⟨x0,h0,h1,h2,h3,h4⟩:=h;exact k x0 h0 h1 h2 h3 h4
theorem aaD{α0 α1:Sort _}{p0:α0->α1->Prop}{G:Prop}(h:∃x0 x1,p0 x0 x1)(k:∀x0 x1,p0 x0 x1->G):G:=by
 obtain⟨x0,x1,h0⟩:=h;exact k x0 x1 h0
theorem bG{α0 α1:Sort _}{p0 p1 p2:α0->α1->Prop}{G:Prop}(h:∃x0 x1,p0 x0 x1/\p1 x0 x1/\p2 x0 x1)(k:∀x0 x1,p0 x0 x1->p1 x0 x1->p2 x0 x1->G):G:=by
 obtain⟨x0,x1,h0,h1,h2⟩:=h;exact k x0 x1 h0 h1 h2
theorem Gm{α0 α1:Sort _}{p0 p1 p2 p3:α0->α1->Prop}{G:Prop}(h:∃x0 x1,p0 x0 x1/\p1 x0 x1/\p2 x0 x1/\p3 x0 x1)(k:∀x0 x1,p0 x0 x1->p1 x0 x1->p2 x0 x1->p3 x0 x1->G):G:=by
 obtain⟨x0,x1,h0,h1,h2,h3⟩:=h;exact k x0 x1 h0 h1 h2 h3
theorem Gk{α0 α1:Sort _}{p0 p1 p2 p3 p4:α0->α1->Prop}{G:Prop}(h:∃x0 x1,p0 x0 x1/\p1 x0 x1/\p2 x0 x1/\p3 x0 x1/\p4 x0 x1)(k:∀x0 x1,p0 x0 x1->p1 x0 x1->p2 x0 x1->p3 x0 x1->p4 x0 x1->G):G:=by
 obtain⟨x0,x1,h0,h1,h2,h3,h4⟩:=h;exact k x0 x1 h0 h1 h2 h3 h4
theorem aaC{α0 α1 α2:Sort _}{p0 p1 p2:α0->α1->α2->Prop}{G:Prop}(h:∃x0 x1 x2,p0 x0 x1 x2/\p1 x0 x1 x2/\p2 x0 x1 x2)(k:∀x0 x1 x2,p0 x0 x1 x2->p1 x0 x1 x2->p2 x0 x1 x2->G):G:=by
 obtain⟨x0,x1,x2,h0,h1,h2⟩:=h;exact k x0 x1 x2 h0 h1 h2
theorem kJ{α0 α1 α2:Sort _}{p0 p1 p2 p3:α0->α1->α2->Prop}{G:Prop}(h:∃x0 x1 x2,p0 x0 x1 x2/\p1 x0 x1 x2/\p2 x0 x1 x2/\p3 x0 x1 x2)(k:∀x0 x1 x2,p0 x0 x1 x2->p1 x0 x1 x2->p2 x0 x1 x2->p3 x0 x1 x2->G):G:=by
 obtain⟨x0,x1,x2,h0,h1,h2,h3⟩:=h;exact k x0 x1 x2 h0 h1 h2 h3
theorem Qx{α0 α1 α2:Sort _}{p0 p1 p2 p3 p4 p5 p6 p7:α0->α1->α2->Prop}{G:Prop}(h:∃x0 x1 x2,p0 x0 x1 x2/\p1 x0 x1 x2/\p2 x0 x1 x2/\p3 x0 x1 x2/\p4 x0 x1 x2/\p5 x0 x1 x2/\p6 x0 x1 x2/\p7 x0 x1 x2)(k:∀x0 x1 x2,p0 x0 x1 x2->p1 x0 x1 x2->p2 x0 x1 x2->p3 x0 x1 x2->p4 x0 x1 x2->p5 x0 x1 x2->p6 x0 x1 x2->p7 x0 x1 x2->G):G:=by
 obtain⟨x0,x1,x2,h0,h1,h2,h3,h4,h5,h6,h7⟩:=h;exact k x0 x1 x2 h0 h1 h2 h3 h4 h5 h6 h7
theorem Qw{α0 α1 α2 α3:Sort _}{p0 p1:α0->α1->α2->α3->Prop}{G:Prop}(h:∃x0 x1 x2 x3,p0 x0 x1 x2 x3/\p1 x0 x1 x2 x3)(k:∀x0 x1 x2 x3,p0 x0 x1 x2 x3->p1 x0 x1 x2 x3->G):G:=by
 obtain⟨x0,x1,x2,x3,h0,h1⟩:=h;exact k x0 x1 x2 x3 h0 h1
theorem uP{α0 α1 α2 α3:Sort _}{p0 p1 p2:α0->α1->α2->α3->Prop}{G:Prop}(h:∃x0 x1 x2 x3,p0 x0 x1 x2 x3/\p1 x0 x1 x2 x3/\p2 x0 x1 x2 x3)(k:∀x0 x1 x2 x3,p0 x0 x1 x2 x3->p1 x0 x1 x2 x3->p2 x0 x1 x2 x3->G):G:=by
 obtain⟨x0,x1,x2,x3,h0,h1,h2⟩:=h;exact k x0 x1 x2 x3 h0 h1 h2
theorem uO{α0 α1 α2 α3:Sort _}{p0 p1 p2 p3 p4:α0->α1->α2->α3->Prop}{G:Prop}(h:∃x0 x1 x2 x3,p0 x0 x1 x2 x3/\p1 x0 x1 x2 x3/\p2 x0 x1 x2 x3/\p3 x0 x1 x2 x3/\p4 x0 x1 x2 x3)(k:∀x0 x1 x2 x3,p0 x0 x1 x2 x3->p1 x0 x1 x2 x3->p2 x0 x1 x2 x3->p3 x0 x1 x2 x3->p4 x0 x1 x2 x3->G):G:=by
 obtain⟨x0,x1,x2,x3,h0,h1,h2,h3,h4⟩:=h;exact k x0 x1 x2 x3 h0 h1 h2 h3 h4
theorem aaB{α0 α1 α2 α3:Sort _}{p0 p1 p2 p3 p4 p5:α0->α1->α2->α3->Prop}{G:Prop}(h:∃x0 x1 x2 x3,p0 x0 x1 x2 x3/\p1 x0 x1 x2 x3/\p2 x0 x1 x2 x3/\p3 x0 x1 x2 x3/\p4 x0 x1 x2 x3/\p5 x0 x1 x2 x3)(k:∀x0 x1 x2 x3,p0 x0 x1 x2 x3->p1 x0 x1 x2 x3->p2 x0 x1 x2 x3->p3 x0 x1 x2 x3->p4 x0 x1 x2 x3->p5 x0 x1 x2 x3->G):G:=by
 obtain⟨x0,x1,x2,x3,h0,h1,h2,h3,h4,h5⟩:=h;exact k x0 x1 x2 x3 h0 h1 h2 h3 h4 h5
theorem aaA{α0 α1 α2 α3:Sort _}{p0 p1 p2 p3 p4 p5 p6 p7:α0->α1->α2->α3->Prop}{G:Prop}(h:∃x0 x1 x2 x3,p0 x0 x1 x2 x3/\p1 x0 x1 x2 x3/\p2 x0 x1 x2 x3/\p3 x0 x1 x2 x3/\p4 x0 x1 x2 x3/\p5 x0 x1 x2 x3/\p6 x0 x1 x2 x3/\p7 x0 x1 x2 x3)(k:∀x0 x1 x2 x3,p0 x0 x1 x2 x3->p1 x0 x1 x2 x3->p2 x0 x1 x2 x3->p3 x0 x1 x2 x3->p4 x0 x1 x2 x3->p5 x0 x1 x2 x3->p6 x0 x1 x2 x3->p7 x0 x1 x2 x3->G):G:=by
 obtain⟨x0,x1,x2,x3,h0,h1,h2,h3,h4,h5,h6,h7⟩:=h;exact k x0 x1 x2 x3 h0 h1 h2 h3 h4 h5 h6 h7
theorem aaz{α0 α1 α2 α3:Sort _}{p0 p1 p2 p3 p4 p5 p6 p7 p8:α0->α1->α2->α3->Prop}{G:Prop}(h:∃x0 x1 x2 x3,p0 x0 x1 x2 x3/\p1 x0 x1 x2 x3/\p2 x0 x1 x2 x3/\p3 x0 x1 x2 x3/\p4 x0 x1 x2 x3/\p5 x0 x1 x2 x3/\p6 x0 x1 x2 x3/\p7 x0 x1 x2 x3/\p8 x0 x1 x2 x3)(k:∀x0 x1 x2 x3,p0 x0 x1 x2 x3->p1 x0 x1 x2 x3->p2 x0 x1 x2 x3->p3 x0 x1 x2 x3->p4 x0 x1 x2 x3->p5 x0 x1 x2 x3->p6 x0 x1 x2 x3->p7 x0 x1 x2 x3->p8 x0 x1 x2 x3->G):G:=by
 obtain⟨x0,x1,x2,x3,h0,h1,h2,h3,h4,h5,h6,h7,h8⟩:=h;exact k x0 x1 x2 x3 h0 h1 h2 h3 h4 h5 h6 h7 h8
theorem aay{α0 α1 α2 α3:Sort _}{p0 p1 p2 p3 p4 p5 p6 p7 p8 p9:α0->α1->α2->α3->Prop}{G:Prop}(h:∃x0 x1 x2 x3,p0 x0 x1 x2 x3/\p1 x0 x1 x2 x3/\p2 x0 x1 x2 x3/\p3 x0 x1 x2 x3/\p4 x0 x1 x2 x3/\p5 x0 x1 x2 x3/\p6 x0 x1 x2 x3/\p7 x0 x1 x2 x3/\p8 x0 x1 x2 x3/\p9 x0 x1 x2 x3)(k:∀x0 x1 x2 x3,p0 x0 x1 x2 x3->p1 x0 x1 x2 x3->p2 x0 x1 x2 x3->p3 x0 x1 x2 x3->p4 x0 x1 x2 x3->p5 x0 x1 x2 x3->p6 x0 x1 x2 x3->p7 x0 x1 x2 x3->p8 x0 x1 x2 x3->p9 x0 x1 x2 x3->G):G:=by
 obtain⟨x0,x1,x2,x3,h0,h1,h2,h3,h4,h5,h6,h7,h8,h9⟩:=h;exact k x0 x1 x2 x3 h0 h1 h2 h3 h4 h5 h6 h7 h8 h9
theorem mK{α0 α1 α2 α3 α4:Sort _}{p0 p1 p2 p3 p4 p5:α0->α1->α2->α3->α4->Prop}{G:Prop}(h:∃x0 x1 x2 x3 x4,p0 x0 x1 x2 x3 x4/\p1 x0 x1 x2 x3 x4/\p2 x0 x1 x2 x3 x4/\p3 x0 x1 x2 x3 x4/\p4 x0 x1 x2 x3 x4/\p5 x0 x1 x2 x3 x4)(k:∀x0 x1 x2 x3 x4,p0 x0 x1 x2 x3 x4->p1 x0 x1 x2 x3 x4->p2 x0 x1 x2 x3 x4->p3 x0 x1 x2 x3 x4->p4 x0 x1 x2 x3 x4->p5 x0 x1 x2 x3 x4->G):G:=by
 obtain⟨x0,x1,x2,x3,x4,h0,h1,h2,h3,h4,h5⟩:=h;exact k x0 x1 x2 x3 x4 h0 h1 h2 h3 h4 h5
theorem aax{α0 α1 α2 α3 α4 α5:Sort _}{p0 p1 p2 p3 p4 p5 p6 p7:α0->α1->α2->α3->α4->α5->Prop}{G:Prop}(h:∃x0 x1 x2 x3 x4 x5,p0 x0 x1 x2 x3 x4 x5/\p1 x0 x1 x2 x3 x4 x5/\p2 x0 x1 x2 x3 x4 x5/\p3 x0 x1 x2 x3 x4 x5/\p4 x0 x1 x2 x3 x4 x5/\p5 x0 x1 x2 x3 x4 x5/\p6 x0 x1 x2 x3 x4 x5/\p7 x0 x1 x2 x3 x4 x5)(k:∀x0 x1 x2 x3 x4 x5,p0 x0 x1 x2 x3 x4 x5->p1 x0 x1 x2 x3 x4 x5->p2 x0 x1 x2 x3 x4 x5->p3 x0 x1 x2 x3 x4 x5->p4 x0 x1 x2 x3 x4 x5->p5 x0 x1 x2 x3 x4 x5->p6 x0 x1 x2 x3 x4 x5->p7 x0 x1 x2 x3 x4 x5->G):G:=by
 obtain⟨x0,x1,x2,x3,x4,x5,h0,h1,h2,h3,h4,h5,h6,h7⟩:=h;exact k x0 x1 x2 x3 x4 x5 h0 h1 h2 h3 h4 h5 h6 h7
theorem Qv{α0 α1 α2 α3 α4 α5 α6:Sort _}{p0 p1:α0->α1->α2->α3->α4->α5->α6->Prop}{G:Prop}(h:∃x0 x1 x2 x3 x4 x5 x6,p0 x0 x1 x2 x3 x4 x5 x6/\p1 x0 x1 x2 x3 x4 x5 x6)(k:∀x0 x1 x2 x3 x4 x5 x6,p0 x0 x1 x2 x3 x4 x5 x6->p1 x0 x1 x2 x3 x4 x5 x6->G):G:=by
 obtain⟨x0,x1,x2,x3,x4,x5,x6,h0,h1⟩:=h;exact k x0 x1 x2 x3 x4 x5 x6 h0 h1
theorem KC{α0 α1 α2 α3 α4 α5 α6:Sort _}{p0 p1 p2 p3 p4:α0->α1->α2->α3->α4->α5->α6->Prop}{G:Prop}(h:∃x0 x1 x2 x3 x4 x5 x6,p0 x0 x1 x2 x3 x4 x5 x6/\p1 x0 x1 x2 x3 x4 x5 x6/\p2 x0 x1 x2 x3 x4 x5 x6/\p3 x0 x1 x2 x3 x4 x5 x6/\p4 x0 x1 x2 x3 x4 x5 x6)(k:∀x0 x1 x2 x3 x4 x5 x6,p0 x0 x1 x2 x3 x4 x5 x6->p1 x0 x1 x2 x3 x4 x5 x6->p2 x0 x1 x2 x3 x4 x5 x6->p3 x0 x1 x2 x3 x4 x5 x6->p4 x0 x1 x2 x3 x4 x5 x6->G):G:=by
 obtain⟨x0,x1,x2,x3,x4,x5,x6,h0,h1,h2,h3,h4⟩:=h;exact k x0 x1 x2 x3 x4 x5 x6 h0 h1 h2 h3 h4
theorem aaw{α0 α1 α2 α3 α4 α5 α6 α7:Sort _}{p0 p1 p2 p3 p4 p5 p6 p7 p8 p9:α0->α1->α2->α3->α4->α5->α6->α7->Prop}{G:Prop}(h:∃x0 x1 x2 x3 x4 x5 x6 x7,p0 x0 x1 x2 x3 x4 x5 x6 x7/\p1 x0 x1 x2 x3 x4 x5 x6 x7/\p2 x0 x1 x2 x3 x4 x5 x6 x7/\p3 x0 x1 x2 x3 x4 x5 x6 x7/\p4 x0 x1 x2 x3 x4 x5 x6 x7/\p5 x0 x1 x2 x3 x4 x5 x6 x7/\p6 x0 x1 x2 x3 x4 x5 x6 x7/\p7 x0 x1 x2 x3 x4 x5 x6 x7/\p8 x0 x1 x2 x3 x4 x5 x6 x7/\p9 x0 x1 x2 x3 x4 x5 x6 x7)(k:∀x0 x1 x2 x3 x4 x5 x6 x7,p0 x0 x1 x2 x3 x4 x5 x6 x7->p1 x0 x1 x2 x3 x4 x5 x6 x7->p2 x0 x1 x2 x3 x4 x5 x6 x7->p3 x0 x1 x2 x3 x4 x5 x6 x7->p4 x0 x1 x2 x3 x4 x5 x6 x7->p5 x0 x1 x2 x3 x4 x5 x6 x7->p6 x0 x1 x2 x3 x4 x5 x6 x7->p7 x0 x1 x2 x3 x4 x5 x6 x7->p8 x0 x1 x2 x3 x4 x5 x6 x7->p9 x0 x1 x2 x3 x4 x5 x6 x7->G):G:=by
 obtain⟨x0,x1,x2,x3,x4,x5,x6,x7,h0,h1,h2,h3,h4,h5,h6,h7,h8,h9⟩:=h;exact k x0 x1 x2 x3 x4 x5 x6 x7 h0 h1 h2 h3 h4 h5 h6 h7 h8 h9
theorem aav{α0 α1 α2 α3 α4 α5 α6 α7 α8:Sort _}{p0 p1 p2:α0->α1->α2->α3->α4->α5->α6->α7->α8->Prop}{G:Prop}(h:∃x0 x1 x2 x3 x4 x5 x6 x7 x8,p0 x0 x1 x2 x3 x4 x5 x6 x7 x8/\p1 x0 x1 x2 x3 x4 x5 x6 x7 x8/\p2 x0 x1 x2 x3 x4 x5 x6 x7 x8)(k:∀x0 x1 x2 x3 x4 x5 x6 x7 x8,p0 x0 x1 x2 x3 x4 x5 x6 x7 x8->p1 x0 x1 x2 x3 x4 x5 x6 x7 x8->p2 x0 x1 x2 x3 x4 x5 x6 x7 x8->G):G:=by
 obtain⟨x0,x1,x2,x3,x4,x5,x6,x7,x8,h0,h1,h2⟩:=h;exact k x0 x1 x2 x3 x4 x5 x6 x7 x8 h0 h1 h2
theorem Xk{α0 α1 α2 α3 α4 α5 α6 α7 α8 α9:Sort _}{p0 p1:α0->α1->α2->α3->α4->α5->α6->α7->α8->α9->Prop}{G:Prop}(h:∃x0 x1 x2 x3 x4 x5 x6 x7 x8 x9,p0 x0 x1 x2 x3 x4 x5 x6 x7 x8 x9/\p1 x0 x1 x2 x3 x4 x5 x6 x7 x8 x9)(k:∀x0 x1 x2 x3 x4 x5 x6 x7 x8 x9,p0 x0 x1 x2 x3 x4 x5 x6 x7 x8 x9->p1 x0 x1 x2 x3 x4 x5 x6 x7 x8 x9->G):G:=by
 obtain⟨x0,x1,x2,x3,x4,x5,x6,x7,x8,x9,h0,h1⟩:=h;exact k x0 x1 x2 x3 x4 x5 x6 x7 x8 x9 h0 h1
theorem Xj{α0 α1 α2 α3 α4 α5 α6 α7 α8 α9 Bx Bw:Sort _}{p0 p1:α0->α1->α2->α3->α4->α5->α6->α7->α8->α9->Bx->Bw->Prop}{G:Prop}(h:∃x0 x1 x2 x3 x4 x5 x6 x7 x8 x9 x10 x11,p0 x0 x1 x2 x3 x4 x5 x6 x7 x8 x9 x10 x11/\p1 x0 x1 x2 x3 x4 x5 x6 x7 x8 x9 x10 x11)(k:∀x0 x1 x2 x3 x4 x5 x6 x7 x8 x9 x10 x11,p0 x0 x1 x2 x3 x4 x5 x6 x7 x8 x9 x10 x11->p1 x0 x1 x2 x3 x4 x5 x6 x7 x8 x9 x10 x11->G):G:=by
 obtain⟨x0,x1,x2,x3,x4,x5,x6,x7,x8,x9,x10,x11,h0,h1⟩:=h;exact k x0 x1 x2 x3 x4 x5 x6 x7 x8 x9 x10 x11 h0 h1
theorem T4{α0 α1 α2 α3 α4 α5 α6 α7 α8 α9 Bx Bw:Sort _}{p0 p1 p2 p3 p4 p5 p6 p7 p8 p9 p10:α0->α1->α2->α3->α4->α5->α6->α7->α8->α9->Bx->Bw->Prop}{G:Prop}(h:∃x0 x1 x2 x3 x4 x5 x6 x7 x8 x9 x10 x11,p0 x0 x1 x2 x3 x4 x5 x6 x7 x8 x9 x10 x11/\p1 x0 x1 x2 x3 x4 x5 x6 x7 x8 x9 x10 x11/\p2 x0 x1 x2 x3 x4 x5 x6 x7 x8 x9 x10 x11/\p3 x0 x1 x2 x3 x4 x5 x6 x7 x8 x9 x10 x11/\p4 x0 x1 x2 x3 x4 x5 x6 x7 x8 x9 x10 x11/\p5 x0 x1 x2 x3 x4 x5 x6 x7 x8 x9 x10 x11/\p6 x0 x1 x2 x3 x4 x5 x6 x7 x8 x9 x10 x11/\p7 x0 x1 x2 x3 x4 x5 x6 x7 x8 x9 x10 x11/\p8 x0 x1 x2 x3 x4 x5 x6 x7 x8 x9 x10 x11/\p9 x0 x1 x2 x3 x4 x5 x6 x7 x8 x9 x10 x11/\p10 x0 x1 x2 x3 x4 x5 x6 x7 x8 x9 x10 x11)(k:∀x0 x1 x2 x3 x4 x5 x6 x7 x8 x9 x10 x11,p0 x0 x1 x2 x3 x4 x5 x6 x7 x8 x9 x10 x11->p1 x0 x1 x2 x3 x4 x5 x6 x7 x8 x9 x10 x11->p2 x0 x1 x2 x3 x4 x5 x6 x7 x8 x9 x10 x11->p3 x0 x1 x2 x3 x4 x5 x6 x7 x8 x9 x10 x11->p4 x0 x1 x2 x3 x4 x5 x6 x7 x8 x9 x10 x11->p5 x0 x1 x2 x3 x4 x5 x6 x7 x8 x9 x10 x11->p6 x0 x1 x2 x3 x4 x5 x6 x7 x8 x9 x10 x11->p7 x0 x1 x2 x3 x4 x5 x6 x7 x8 x9 x10 x11->p8 x0 x1 x2 x3 x4 x5 x6 x7 x8 x9 x10 x11->p9 x0 x1 x2 x3 x4 x5 x6 x7 x8 x9 x10 x11->p10 x0 x1 x2 x3 x4 x5 x6 x7 x8 x9 x10 x11->G):G:=by
 obtain⟨x0,x1,x2,x3,x4,x5,x6,x7,x8,x9,x10,x11,h0,h1,h2,h3,h4,h5,h6,h7,h8,h9,h10⟩:=h;exact k x0 x1 x2 x3 x4 x5 x6 x7 x8 x9 x10 x11 h0 h1 h2 h3 h4 h5 h6 h7 h8 h9 h10
end _L
set_option Elab.async false
set_option linter.all false
set_option maxRecDepth 100000
namespace _L
open PySem PySem.Spec PyProof.Rows
abbrev Key:=Sum Int Str
def A_:Key->AA->Bool
 | .inl k,v=>Value.isInt k v
 | .inr x,v=>Value.isStrOf x v
def adX(w:World):Key->Int
 | .inl k=>hashInt k
 | .inr x=>hashStr w x
theorem cQ:∀{k:Key}{v:AA},A_ k v=true->(∃i t,k=Sum.inl i/\v=Value.int i t)\/(∃x t,k=Sum.inr x/\v=Value.str x t)
 | .inl i,v,h=>by
  obtain⟨t,e⟩:=Value.isInt_shape (k:=i) (v:=v) h;exact .inl ⟨i,t,rfl,e⟩
 | .inr x,v,h=>by
  obtain⟨t,e⟩:=Value.isStrOf_shape (x:=x) (v:=v) h;exact .inr ⟨x,t,rfl,e⟩
theorem Nz(i:Int)(t:Tok):A_ (.inl i) (.int i t)=true:=by simp[A_,Value.isInt]
theorem Ny(x:Str)(t:Tok):A_ (.inr x) (.str x t)=true:=by simp[A_,Value.isStrOf]
theorem X8(a b:Int):decide ((Sum.inl a:Key)=Sum.inl b)=(a==b):=by
 by_cases e:a=b
 ·subst e; simp
 ·have h:¬(Sum.inl a:Key)=Sum.inl b:=fun q=>e (Sum.inl.inj q);rw[mY h];exact(beq_eq_false_iff_ne.mpr e).symm
theorem X5(a b:Str):decide ((Sum.inr a:Key)=Sum.inr b)=decide (a=b):=by
 by_cases e:a=b
 ·subst e; simp
 ·have h:¬(Sum.inr a:Key)=Sum.inr b:=fun q=>e (Sum.inr.inj q);rw[mY h,mY e]
theorem X7(a:Int)(b:Str):decide ((Sum.inl a:Key)=Sum.inr b)=false:=mY (fun q=>nomatch q)
theorem X6(a:Str)(b:Int):decide ((Sum.inr a:Key)=Sum.inl b)=false:=mY (fun q=>nomatch q)
def du(prog:AC)(w:World):PySem.KeyKind prog w Key where
 is:=A_
 hash:=adX w
 inj:=fun v a b ha hb=>by
  rcases cQ ha with⟨i,t,rfl,rfl⟩ | ⟨x,t,rfl,rfl⟩
  ·rcases cQ hb with⟨j,u,rfl,e⟩ | ⟨y,u,rfl,e⟩
   ·injection e with e1 _; rw[e1]
   ·exact nomatch e
  ·rcases cQ hb with⟨j,u,rfl,e⟩ | ⟨y,u,rfl,e⟩
   ·exact nomatch e
   ·injection e with e1 _; rw[e1]
 byValue:=fun k v h=>by
  rcases cQ h with⟨i,t,rfl,rfl⟩ | ⟨x,t,rfl,rfl⟩ <;> rfl
 pyHash:=fun hv h=>by
  rcases cQ hv with⟨i,t,rfl,rfl⟩ | ⟨x,t,rfl,rfl⟩
  ·exact wpAny_pyHash_int h
  ·exact wpAny_pyHash_str h
 eqBool:=fun hu hv h=>by
  rcases cQ hu with⟨i,t,rfl,rfl⟩ | ⟨x,t,rfl,rfl⟩
  ·rcases cQ hv with⟨j,u,rfl,rfl⟩ | ⟨y,u,rfl,rfl⟩
   ·rw[X8] at h; exact wpAny_eqBool_int h
   ·rw[X7] at h; exact SeqAt.EqAt.int_str i t y u _ _ _ _ h
  ·rcases cQ hv with⟨j,u,rfl,rfl⟩ | ⟨y,u,rfl,rfl⟩
   ·rw[X6] at h; exact SeqAt.EqAt.str_int x t j u _ _ _ _ h
   ·rw[X5] at h; exact wpAny_eqBool_str h
 «strs»:=fun k x t v h=>by
  rcases cQ h with⟨i,u,rfl,e⟩ | ⟨y,u,rfl,e⟩
  ·exact nomatch e
  ·injection e with e1 _
   subst e1;cases v <;> rfl
theorem GJ(prog:AC)(w:World)(i:Int)(t:Tok):(du prog w).is (.inl i) (.int i t)=true:=Nz i t
theorem GF(prog:AC)(w:World)(x:Str)(t:Tok):(du prog w).is (.inr x) (.str x t)=true:=Ny x t
inductive V where
 | non | bl (b:Bool) | int (i:Int) | str (x:Str) | Oi (b:Array UInt8) | flt (b:UInt64) | ref (a:Addr) | ty (n:String)
 deriving DecidableEq
def RelV:V->AA->Prop
 | .non,u=>u=Value.none
 | .bl b,u=>u=Value.bool b
 | .int i,u=>∃t,u=Value.int i t
 | .str x,u=>∃t,u=Value.str x t
 | .Oi b,u=>∃t,u=Value.bytes b t
 | .flt b,u=>∃t,u=Value.float b t
 | .ref a,u=>u=Value.ref a
 | .ty n,u=>u=Value.type n
abbrev Vals:List V->List AA->Prop:=Paired RelV
theorem Vals.length{xs:List V}{us:List AA}(r:Vals xs us):xs.length=us.length:=Paired.length r
theorem Vals.get:∀{xs:List V}{us:List AA}{i:Nat}{x:V},Vals xs us->xs[i]?=some x->∃u,us[i]?=some u/\RelV x u
 | _,_,_,_,.nil,e=>by simp at e
 | _,_,0,_,.cons r _,e=>by simp at e; subst e; exact⟨_,rfl,r⟩
 | _,_,i+1,x,.cons _ t,e=>by
  obtain⟨u,h1,h2⟩:=Vals.get (i:=i) (x:=x) t (by simpa using e)
  exact⟨u,by simpa using h1,h2⟩
theorem Vals.set{x:V}{u:AA}(r:RelV x u):∀{xs:List V}{us:List AA}(i:Nat),Vals xs us->Vals (xs.set i x) (us.set i u)
 | _,_,_,.nil=>.nil
 | _,_,0,.cons _ t=>.cons r t
 | _,_,i+1,.cons q t=>.cons q (Vals.set r i t)
theorem Vals.append:∀{xs ys:List V}{us ws:List AA},Vals xs us->Vals ys ws->Vals (xs++ys) (us++ws)
 | _,_,_,_,.nil,s=>s
 | _,_,_,_,.cons r t,s=>.cons r (Vals.append t s)
theorem Vals.take:∀{xs:List V}{us:List AA}(n:Nat),Vals xs us->Vals (xs.take n) (us.take n)
 | _,_,0,_=>.nil
 | _,_,_+1,.nil=>.nil
 | _,_,n+1,.cons r t=>.cons r (Vals.take n t)
theorem Vals.drop:∀{xs:List V}{us:List AA}(n:Nat),Vals xs us->Vals (xs.drop n) (us.drop n)
 | _,_,0,r=>r
 | _,_,_+1,.nil=>.nil
 | _,_,n+1,.cons _ t=>Vals.drop n t
def pR:Option V->Option AA->Prop
 | some v,some u=>RelV v u
 | none,none=>True
 | _,_=>False
def KV{κ:Type}:List (κ×V)->List (κ×AA)->Prop:=Paired fun(p:κ×V)(q:κ×AA)=>p.1=q.1/\RelV p.2 q.2
def kV:Key->V
 | .inl i=>.int i
 | .inr x=>.str x
inductive HO where
 | lst (xs:List V)
 | tup (xs:List V)
 | dK (kvs:List (Key×V)) | dT (kvs:List (List Key×V))
 | set (S:Int->Bool) (n:Nat)
 | ins (C dx:Addr) (fs:List (Str×V))
 | own (x:Addr)
 | xd (fs:List (Str×V))
 | met (f x:Addr)
 | Zi (lo hi:Int)
 | ug (o:Obj) (u:HO)
 | VF (ps:Array AA)
 | ext (φ:Heap->Prop)
abbrev Hp:=Addr->Option HO
def upd(H:Hp)(a:Addr)(o:HO):Hp:=fun b=>if b=a then some o else H b
theorem aA{H:Hp}{a:Addr}{o:HO}:upd H a o a=some o:=by unfold upd; rw[bh rfl]
theorem aH{H:Hp}{a b:Addr}{o:HO}(h:b≠a):upd H a o b=H b:=by unfold upd; rw[aX h]
theorem J7{H:Hp}{a:Addr}{o u:HO}:upd (upd H a o) a u=upd H a u:=by
 funext b; unfold upd; split <;> rfl
theorem aaV{H:Hp}{a b:Addr}{o u:HO}(h:H a=some o)(h':H b=some u)(d:o≠u):a≠b:=by
 intro e; subst e; rw[h] at h'; exact d (Option.some.inj h')
theorem cD{H:Hp}{a b:Addr}{o:HO}(h:H a=some o)(h':H b=none):a≠b:=by
 intro e; subst e; rw[h] at h'; cases h'
section
variable(P:AC)(w:World)
def b_(H:Hp)(h:Heap)(a:Addr):HO->Prop
 | .lst xs=>xs.length<=sizeLine/\∃(its:List AA)(n:Nat),Vals xs its/\h.get? a=some { cls:=.type "list",data:=.seq its.toArray n }
 | .tup xs=>xs.length<=sizeLine/\∃its:List AA,Vals xs its/\IsTup h a its.toArray
 | .dK kvs=>kvs.length<=sizeLine/\(a==sysModules)=false/\∃vs,KV kvs vs/\h.DictOf (du P w) a vs
 | .dT kvs=>kvs.length<=sizeLine/\(a==sysModules)=false/\∃xs:List (List Key×Addr×AA),
   Paired (fun(p:List Key×V)(q:List Key×Addr×AA)=>p.1=q.1/\H q.2.1=some (.tup (p.1.map kV))/\RelV p.2 q.2.2) kvs xs /\
   ∃o es ep,h.get? a=some o/\o.ExactDict/\o.data=.dict es ep/\es.toList=xs.map (entryOfKey (tupleKind (du P w)))/\(xs.map (·.1)).Nodup
 | .set S n=>h.SetOf (intKind P w) a S n
 | .ins C dx fs=>H dx=some (.own a)/\fs.length<=1000/\dx≠a/\h.get? a=some (instObj C dx) /\
   ∃mA,h.Ns1 dx mA/\(∀f,pR (fs.lookup f) (mA f))/\PySem.Within mA (fs.map (·.1))
 | .own _=>∃o,h.get? a=some o
 | .xd fs=>∃mA,h.Ns1 a mA/\∀f,pR (fs.lookup f) (mA f)
 | .Zi lo hi=>∃t u v,h.get? a=some { cls:=.type "range",data:=.fields #[.int lo t,.int hi u,.int 1 v] }
 | .ug o u=>h.get? a=some o/\b_ H h a u
 | .VF ps=>h.get? a=some { cls:=.none,data:=.fields ps }
 | .met f x=>h.get? a=some (methodObj (.ref f) (.ref x))
 | .ext φ=>φ h/\(∃o,h.get? a=some o)/\∀h1 h2:Heap,φ h1->(∀o,h1.get? a=some o->h2.get? a=some o)->φ h2
def jK(H:Hp)(h:Heap):Prop:=∀a o,H a=some o->b_ P w H h a o
end
section
variable{P:AC}{w:World}{H H':Hp}{h h':Heap}{a:Addr}{o:HO}
theorem b_.lt(x:b_ P w H h a o):a<h.objs.size:=by
 cases o with
 | lst xs=>obtain⟨_,_,_,_,e⟩:=x; exact bH e
 | tup xs=>obtain⟨_,_,_,p⟩:=x; exact p.lt
 | dK kvs=>obtain⟨_,_,_,_,o,_,_,e,_⟩:=x; exact bH e
 | dT kvs=>obtain⟨_,_,_,_,o,_,_,e,_⟩:=x; exact bH e
 | set S n=>obtain⟨o,_,_,_,e,_⟩:=x; exact bH e
 | ins C dx fs=>obtain⟨_,_,_,e,_⟩:=x; exact bH e
 | own y=>obtain⟨_,e⟩:=x; exact bH e
 | xd fs=>obtain⟨_,⟨_,_,_,e,_⟩,_⟩:=x; exact bH e
 | Zi lo hi=>obtain⟨_,_,_,e⟩:=x; exact bH e
 | ug ob u=>obtain⟨e,_⟩:=x; exact bH e
 | VF ps=>exact bH (show h.get? a=some _ from x)
 | met f y=>exact bH (show h.get? a=some _ from x)
 | ext φ=>obtain⟨_,⟨_,e⟩,_⟩:=x; exact bH e
theorem Paired.XN{α β:Type}{F G:α->β->Prop}:∀{l₁:List α} {l₂:List β},Paired F l₁ l₂->(∀a b,F a b->G a b)->Paired G l₁ l₂
 | _,_,.nil,_=>.nil
 | _,_,.cons r t,f=>.cons (f _ _ r) (Paired.XN t f)
theorem b_.stay(x:b_ P w H h a o)(k:∀b u,(b=a\/H b=some (.own a))->h.get? b=some u->h'.get? b=some u)
  (ho:∀b,H b=some (.own a)->H' b=some (.own a)) (ht:∀b xs,H b=some (.tup xs)->H' b=some (.tup xs)):b_ P w H' h' a o:=by
 induction o with
 | lst xs=>obtain⟨z,its,n,r,e⟩:=x; exact⟨z,its,n,r,k _ _ (.inl rfl) e⟩
 | tup xs=>obtain⟨z,its,r,ob,e,c⟩:=x; exact⟨z,its,r,ob,k _ _ (.inl rfl) e,c⟩
 | dK kvs=>obtain⟨z,y,vs,r,ob,es,ep,e,c⟩:=x; exact⟨z,y,vs,r,ob,es,ep,k _ _ (.inl rfl) e,c⟩
 | dT kvs=>
  obtain⟨z,y,xs,r,ob,es,ep,e,c⟩:=x;exact⟨z,y,xs,Paired.XN r fun p q z=>⟨z.1,ht _ _ z.2.1,z.2.2⟩,ob,es,ep,k _ _ (.inl rfl) e,c⟩
 | set S n=>obtain⟨ob,es,ep,t,e,c⟩:=x; exact⟨ob,es,ep,t,k _ _ (.inl rfl) e,c⟩
 | ins C dx fs=>
  obtain⟨d,z,ne,e,mA,⟨od,es,ep,e2,c⟩,r⟩:=x;exact⟨ho _ d,z,ne,k _ _ (.inl rfl) e,mA,⟨od,es,ep,k _ _ (.inr d) e2,c⟩,r⟩
 | own y=>obtain⟨ob,e⟩:=x; exact⟨ob,k _ _ (.inl rfl) e⟩
 | xd fs=>obtain⟨mA,⟨od,es,ep,e,c⟩,r⟩:=x; exact⟨mA,⟨od,es,ep,k _ _ (.inl rfl) e,c⟩,r⟩
 | Zi lo hi=>obtain⟨t,u,v,e⟩:=x; exact⟨t,u,v,k _ _ (.inl rfl) e⟩
 | ug ob u ih=>obtain⟨e,q⟩:=x; exact⟨k _ _ (.inl rfl) e,ih q⟩
 | VF ps=>
  have e:h.get? a=some { cls:=.none,data:=.fields ps }:=x;show h'.get? a=some { cls:=.none,data:=.fields ps };exact k a _ (.inl rfl) e
 | met f y=>
  have e:h.get? a=some (methodObj (.ref f) (.ref y)):=x;show h'.get? a=some (methodObj (.ref f) (.ref y));exact k a _ (.inl rfl) e
 | ext φ=>obtain⟨p,⟨o,e⟩,st⟩:=x; exact⟨st _ _ p fun o q=>k _ _ (.inl rfl) q,⟨o,k _ _ (.inl rfl) e⟩,st⟩
theorem jK.lt(x:jK P w H h)(e:H a=some o):a<h.objs.size:=(x a o e).lt
theorem jK.fresh(x:jK P w H h)(e:h.objs.size<=a):H a=none:=by
 cases q:H a with
 | none=>rfl
 | some u=>exact absurd (pL (x.lt q) e) (vf _)
theorem jK.kept(x:jK P w H h)(k:∀b u,h.get? b=some u->h'.get? b=some u):jK P w H h':=fun a o e=>
 (x a o e).stay (fun b u _ q=>k b u q) (fun _ q=>q) fun _ _ q=>q
theorem jK.laid(x:jK P w H h)(k:∀b u,h.get? b=some u->h'.get? b=some u)(hp:h.objs.size<=a)(new:b_ P w (upd H a o) h' a o):jK P w (upd H a o) h':=fun b u e=>by
 have hn:=x.fresh hp;by_cases hb:b=a
 ·subst hb; rw[aA] at e; cases e; exact new
 ·rw[aH hb] at e;exact(x b u e).stay (fun c v _ q=>k c v q) (fun c q=>by rw[aH (cD q hn)]; exact q) fun c xs q=>by rw[aH (cD q hn)]; exact q
end
def Rd(H:Hp)(a:Addr)(u:HO):Prop:=H a=some u\/∃o,H a=some (.ug o u)
theorem Rd.ok{P:AC}{w:World}{H:Hp}{h:Heap}{a:Addr}{u:HO}(r:Rd H a u)(x:jK P w H h):b_ P w H h a u:=by
 rcases r with r | ⟨o,r⟩
 ·exact x a u r
 ·obtain⟨_,q⟩:=x a _ r;exact q
def Mut:Option HO->Prop
 | some (.lst _)=>True
 | some (.dK _)=>True
 | some (.dT _)=>True
 | some (.set _ _)=>True
 | some (.ins _ _ _)=>True
 | some (.ext _)=>True
 | _=>False
section
variable{P:AC}{w:World}{H:Hp}{h h':Heap}{x e:Addr}{o':HO}
theorem jK.write(ok:jK P w H h)(mu:Mut (H x))(he:e=x\/H e=some (.own x))(k:∀b u,b≠e->h.get? b=some u->h'.get? b=some u)(heo:∃u,h'.get? e=some u)
  (new:b_ P w (upd H x o') h' x o'):jK P w (upd H x o') h':=fun b u q=>by
 have aaT:∀c y,H c=some (.own y)->c≠x:=fun c y r z=>by subst z; rw[r] at mu; exact mu
 have adM:∀c xs,H c=some (.tup xs)->c≠x:=fun c xs r z=>by subst z; rw[r] at mu; exact mu
 by_cases hb:b=x
 ·subst hb; rw[aA] at q; cases q; exact new
 ·rw[aH hb] at q;by_cases hbe:b=e
  ·have q':H b=some (.own x):=by
    rcases he with z | z
    ·exact absurd (hbe.trans z) hb
    ·rw[hbe]; exact z
   rw[q] at q'; cases q';obtain⟨v,hv⟩:=heo;exact⟨v,by rw[hbe]; exact hv⟩
  ·refine(ok b u q).stay (fun c v hc r=>k c v ?_ r) (fun c r=>by rw[aH (aaT c b r)]; exact r) fun c xs r=>by rw[aH (adM c xs r)]; exact r
   rcases hc with rfl | hc
   ·exact hbe
   ·rintro rfl;rcases he with z | z
    ·exact aaT c b hc z
    ·rw[hc] at z; cases z; exact hb rfl
end
structure Un(fs ex:List Addr)(H H':Hp)(h h':Heap):Prop where
 keep:∀b o,h.get? b=some o->H b=none->b∉fs->b∉ex->h'.get? b=some o
 slot:∀b o,h.get? b=some o->H b=none->b∈fs->b∉ex->∃sl,h'.get? b=some { o with slots:=sl }
 free:∀b o,h.get? b=some o->H b=none->b∉ex->H' b=none
 there:∀b o,h.get? b=some o->b∉ex->∃o',h'.get? b=some o'
 tups:∀b xs,H b=some (.tup xs)->H' b=some (.tup xs)
 vN:∀b o u,H b=some (.ug o u)->H' b=some (.ug o u)
 yP:∀b ps,H b=some (.VF ps)->∃more,H' b=some (.VF (ps++more))
section
variable{fs fs' ex ex':List Addr}{H H1 H2:Hp}{h h1 h2 h':Heap}{a x e:Addr}{o:HO}
theorem Un.any(u:Un fs ex H H1 h h1){b:Addr}{ob:Obj}(q:h.get? b=some ob)(n:H b=none)(hx:b∉ex):∃sl,h1.get? b=some { ob with slots:=sl }:=by
 by_cases hb:b∈fs
 ·exact u.slot b ob q n hb hx
 ·exact⟨ob.slots,u.keep b ob q n hb hx⟩
theorem Un.kept(k:∀b u,h.get? b=some u->h'.get? b=some u):Un fs ex H H h h':=
 ⟨fun b ob q _ _ _=>k b ob q,fun b ob q _ _ _=>⟨ob.slots,k b ob q⟩,fun _ _ _ n _=>n,fun b ob q _=>⟨ob,k b ob q⟩,fun _ _ q=>q,fun _ _ _ q=>q,fun _ ps q=>⟨#[],by rw[q]; simp⟩⟩
theorem Un.refl:Un fs ex H H h h:=Un.kept fun _ _ q=>q
theorem Un.laid(k:∀b u,h.get? b=some u->h'.get? b=some u)(hp:h.objs.size<=a)(hn:H a=none):Un fs ex H (upd H a o) h h' where
 keep:=fun b u q _ _ _=>k b u q
 slot:=fun b u q _ _ _=>⟨u.slots,k b u q⟩
 free:=fun b u q n _=>by rw[aH (dJ (pL (bH q) hp))]; exact n
 there:=fun b u q _=>⟨u,k b u q⟩
 tups:=fun b xs q=>by rw[aH (cD q hn)]; exact q
 vN:=fun b u xs q=>by rw[aH (cD q hn)]; exact q
 yP:=fun b ps q=>⟨#[],by rw[aH (cD q hn),q]; simp⟩
theorem Un.write(mu:Mut (H x))(he:e=x\/H e=some (.own x))(k:∀b u,b≠e->h.get? b=some u->h'.get? b=some u)(heo:∃u,h'.get? e=some u):Un fs ex H (upd H x o) h h':=by
 have hx:∀b,H b=none->b≠x:=fun b n z=>by subst z; rw[n] at mu; exact mu
 have hb:∀b,H b=none->b≠e:=fun b n z=>by
  subst z;rcases he with r | r
  ·exact hx b n r
  ·rw[n] at r; cases r
 have hm:∀b u,H b=some u->¬Mut (some u)->b≠x:=fun b u q nm z=>by subst z; rw[q] at mu; exact nm mu
 refine⟨fun b u q n _ _=>k b u (hb b n) q,fun b u q n _ _=>⟨u.slots,k b u (hb b n) q⟩,fun b u q n _=>by rw[aH (hx b n)]; exact n,fun b u q _=>?_,
  fun b xs q=>by rw[aH (hm b _ q fun z=>z)]; exact q,fun b u xs q=>by rw[aH (hm b _ q fun z=>z)]; exact q,fun b ps q=>⟨#[],by rw[aH (hm b _ q fun z=>z),q]; simp⟩⟩
 by_cases hbe:b=e
 ·subst hbe; exact heo
 ·exact⟨u,k b u hbe q⟩
end
def trk(h:Heap)(H:Hp):List Addr:=(List.range h.objs.size).filter fun a=>(H a).isSome
def Dn(h:Heap)(H:Hp):Heap:=PySem.W.hideAll h (trk h H)
theorem NP(h:Heap)(H:Hp):(Dn h H).objs.size=h.objs.size:=PySem.W.hideAll_size _ _
theorem Q9{h:Heap}{H:Hp}{b:Addr}{o:Obj}(e:h.get? b=some o)(n:H b=none):(Dn h H).get? b=some o:=
 PySem.W.hideAll_get _ e fun hm=>by
  have q:(H b).isSome=true:=(Gd.mp hm).2;rw[n] at q; simp at q
theorem Ur{h:Heap}{H:Hp}{b:Addr}{o:Obj}(e:(Dn h H).get? b=some o):h.get? b=some o/\H b=none:=by
 have e':h.get? b=some o:=PySem.W.of_hideAll (trk h H) e;refine⟨e',?_⟩;cases q:H b with
 | none=>rfl
 | some x=>
  have hm:b∈trk h H:=Gd.mpr ⟨List.mem_range.mpr (bH e'),by simp[q]⟩
  have z:(Dn h H).get? b=none:=PySem.W.hideAll_none (trk h H) hm;rw[z] at e; cases e
def Vs(g h:Heap)(L:Addr):List (Addr×Obj):=(List.range h.objs.size).filterMap fun a=>if a=L\/(g.get? a).isSome=true then none else(h.get? a).map fun o=>(a,o)
def rest(g h:Heap)(L d:Addr):List (Addr×Obj):=(Vs g h L).filter fun p=>decide (p.1≠d)
structure Mod(K:Frag)(mg:Str->Option AA)(base:Heap):Prop where
 V_:K.In base
 glob:base.Ns mainGlobals mg
 blt:∃mb,base.Ns builtinsNs mb/\∀x:Str,x ≠ "__name__" -> mb x=bootBuiltins x
 nolimit:base.NoLimit
structure Cx where
 prog:AC
 w:World
 K:Frag
 mg:Str->Option AA
 base:Heap
 A:Around
 N:List Str
 s₀:AB
 H₀:Hp
 env:Env
 outer:List Env
 stack:List Env
 ex:List Addr
 fn:Str->Bool
 calm:Bool
 pn:List (Addr×Obj)
 xe:AA->AB->Prop
def frs(l:List Env):List Addr:=l.filterMap (·.frame)
abbrev Cx.fs(X:Cx):List Addr:=frs X.outer
def Vis(sc:Scope)(x:Str):Prop:=sc.names.lookup x=some .local\/sc.names.lookup x=some .cell\/sc.names.lookup x=some .free
def Loc(sc:Scope)(x:Str):Prop:=sc.names.lookup x=some .local\/sc.names.lookup x=some .cell
def Look(env:Env)(h:Heap)(m:Str->Option AA)(x:Str)(u:AA):Prop:=
 (env.kindOf x=some .local/\m x=some u)\/((env.kindOf x=some .cell\/env.kindOf x=some .free)/\∃c,env.cells.lookup x=some c/\h.IsCell c (some u))
structure Cx.Ok(X:Cx):Prop where
 mod:Mod X.K X.mg X.base
 kind:X.env.scope.kind=.function
 glob:X.env.globals=mainGlobals
 blt:X.env.builtins=builtinsNs
 above:X.s₀.heap.objs.size<=X.env.locals
 inj:∀x y c,X.env.cells.lookup x=some c->X.env.cells.lookup y=some c->x=y
 has:∀x,(X.env.kindOf x=some .cell\/X.env.kindOf x=some .free)->∃c,X.env.cells.lookup x=some c
 cab:∀x c,X.fn x=true->X.env.cells.lookup x=some c->X.s₀.heap.objs.size<=c
 hd:X.calm=true->X.A.handled=none
 frames:X.A.frames=some X.stack
 stk:X.stack=X.outer\/(X.stack=X.env::X.outer/\X.env.frame=some X.env.locals)
 exf:∀b∈X.ex,b≠X.env.locals/\∀x c,X.env.cells.lookup x=some c->c≠b
 bs:∀b o,X.base.get? b=some o->X.s₀.heap.get? b=some o/\X.H₀ b=none
 R0:X.base.objs.size<=X.s₀.heap.objs.size
 Nr:∀b o,X.base.get? b=some o->b∉X.ex
 N8:∀b∈X.ex,b∉X.fs
 vM:X.s₀.heap.FunFrames X.base X.outer
 Yj:∀b∈X.fs,X.H₀ b=none
structure Inv(X:Cx)(ae:List (Addr×Obj))(σ:List (Option V))(H:Hp)(s:AB):Prop where
 ok:X.Ok
 os:s.os=X.s₀.os
 bare:AllBare s.gens
 base:Un X.fs X.ex X.H₀ H X.s₀.heap s.heap
 loc:∃m,s.heap.Ns X.env.locals m/\∀(i:Nat)(x:Str)(v:V),X.N[i]?=some x->σ[i]?=some (some v)->Vis X.env.scope x->∃u,RelV v u/\Look X.env s.heap m x u
 cell:∀x c,X.env.cells.lookup x=some c->∃v,s.heap.IsCell c v
 free:H X.env.locals=none
 kZ:∀x c,X.env.cells.lookup x=some c->H c=none
 pin:∀p∈X.pn++ae,s.heap.get? p.1=some p.2/\H p.1=none/\p.1≠X.env.locals/\p.1∉X.fs/\∀v,p.2.data≠.cell v
 hok:jK X.prog X.w H s.heap
 len:σ.length=X.N.length
section
variable{X:Cx}{ae:List (Addr×Obj)}{σ:List (Option V)}{H H':Hp}{s:AB}{h':Heap}
theorem Cx.Ok.adR(ok:X.Ok){b:Addr}{o:Obj}(e:X.base.get? b=some o):b∉X.fs:=fun hb=>by
 have:=(ok.vM.mem hb).1;rw[e] at this; cases this
theorem Inv.bs(I:Inv X ae σ H s):∀b o,X.base.get? b=some o->s.heap.get? b=some o/\H b=none:=fun b o e=>
 ⟨I.base.keep b o (I.ok.bs b o e).1 (I.ok.bs b o e).2 (I.ok.adR e) (I.ok.Nr b o e),I.base.free b o (I.ok.bs b o e).1 (I.ok.bs b o e).2 (I.ok.Nr b o e)⟩
theorem Inv.bk(I:Inv X ae σ H s):∀b o,X.base.get? b=some o->s.heap.get? b=some o:=fun b o e=>(I.bs b o e).1
theorem Inv.mod(I:Inv X ae σ H s):Mod X.K X.mg X.base:=I.ok.mod
theorem Inv.vK(I:Inv X ae σ H s):X.K.In s.heap:=I.ok.mod.V_.keeps I.bk
theorem Inv.fr(I:Inv X ae σ H s):∃m,Fr X.base X.env.locals s.heap m:=
 let ⟨m,hn,_⟩:=I.loc
 ⟨m,hn,I.bk,iH I.ok.R0 I.ok.above⟩
theorem Inv.lt(I:Inv X ae σ H s):X.env.locals<s.heap.objs.size:=let ⟨_,hn,_⟩:=I.loc; hn.lt
theorem Inv.sz(I:Inv X ae σ H s):X.s₀.heap.objs.size<=s.heap.objs.size:=iH I.ok.above (nY I.lt)
theorem Inv.adQ(I:Inv X ae σ H s){a:Addr}(h:s.heap.objs.size<=a):a∉X.fs:=fun hb=>by
 obtain⟨_,o,ho,_⟩:=I.ok.vM.mem hb;exact absurd (pL (bH ho) (iH I.sz h)) (vf _)
theorem Inv.Yw(I:Inv X ae σ H s):∀x c,X.env.cells.lookup x=some c->c≠X.env.locals:=fun x c e z=>by
 obtain⟨v,o,ho,hd⟩:=I.cell x c e;obtain⟨m,⟨o',es,ep,ho',hd',_⟩,_⟩:=I.loc;rw[z,ho'] at ho; cases ho; rw[hd'] at hd; cases hd
theorem Inv.vM(I:Inv X ae σ H s):s.heap.FunFrames X.base X.outer:=by
 have all:∀(l:List Env),(∀b∈frs l,b∈X.fs)->X.s₀.heap.FunFrames X.base l->s.heap.FunFrames X.base l:=by
  intro l
  induction l with
  | nil=>intro _ _; trivial
  | cons env r ih=>
   intro hs hl;obtain⟨hk,⟨L,o,hf,hn,ho,hd⟩,hr⟩:=hl;have hL:L∈X.fs:=hs L (by unfold frs; rw[List.filterMap_cons,hf]; exact dg)
   obtain⟨sl,e⟩:=I.base.slot L o ho (I.ok.Yj L hL) hL fun z=>I.ok.N8 L z hL;exact⟨hk,⟨L,_,hf,hn,e,hd⟩,ih (fun b hb=>hs b (by unfold frs; rw[List.filterMap_cons,hf]; exact cI _ hb)) hr⟩
 exact all X.outer (fun _ hb=>hb) I.ok.vM
theorem Inv.stack(I:Inv X ae σ H s):s.heap.FunFrames X.base X.stack:=by
 rcases I.ok.stk with e | ⟨e,hf⟩
 ·rw[e]; exact I.vM
 ·rw[e];obtain⟨m,hn,_⟩:=I.loc;refine .cons (by rw[I.ok.kind]; decide) hf hn ?_ I.vM
  exact Heap.get?_none_of_le (iH I.ok.R0 I.ok.above)
theorem Inv.Ih(I:Inv X ae σ H s):∀b∈frs X.stack,b∈X.env.locals::X.fs:=fun b hb=>by
 rcases I.ok.stk with e | ⟨e,hf⟩
 ·rw[e] at hb; exact cI _ hb
 ·rw[e] at hb;unfold frs at hb;rw[List.filterMap_cons,hf] at hb;exact hb
theorem Inv.BZ(I:Inv X ae σ H s):∀b∈frs X.stack,H b=none:=fun b hb=>by
 rcases bB.mp (I.Ih b hb) with e | hb
 ·rw[e]; exact I.free
 ·obtain⟨_,o,ho,_⟩:=I.ok.vM.mem hb;exact I.base.free b o ho (I.ok.Yj b hb) fun z=>I.ok.N8 b z hb
theorem Inv.step{g':Array GenState}{t':Nat}{d':Drawn}{ch:List Addr}(I:Inv X ae σ H s)
  (hch:∀b∈ch,(b∈X.ex\/X.s₀.heap.objs.size<=b)/\b≠X.env.locals/\(∀x c,X.env.cells.lookup x=some c->c≠b)/\∀p∈X.pn++ae,p.1≠b)
  (keep:∀b o,b≠X.env.locals->b∉X.fs->b∉ch->s.heap.get? b=some o->H b=none->h'.get? b=some o)
  (slot:∀b o,b≠X.env.locals->b∈X.fs->b∉ch->s.heap.get? b=some o->H b=none->∃sl,h'.get? b=some { o with slots:=sl }) (free:∀b o,b∉ch->s.heap.get? b=some o->H b=none->H' b=none)
  (there:∀b o,b∉ch->s.heap.get? b=some o->∃o',h'.get? b=some o')
  (tups:∀b xs,H b=some (.tup xs)->H' b=some (.tup xs)) (vN:∀b o u,H b=some (.ug o u)->H' b=some (.ug o u)) (yP:∀b ps,H b=some (.VF ps)->∃more,H' b=some (.VF (ps++more)))
  (ns:∀m,s.heap.Ns X.env.locals m->h'.Ns X.env.locals m) (hok:jK X.prog X.w H' h') (hg:AllBare g') :
  Inv X ae σ H' { s with heap:=h',gens:=g',drawn:=d',toks:=t' }:=by
 have neL:∀b o,X.s₀.heap.get? b=some o->b≠X.env.locals:=fun b o e=>dJ (pL (bH e) I.ok.above)
 have neC:∀b o,X.s₀.heap.get? b=some o->b∉X.ex->b∉ch:=fun b o e hx hb=>by
  rcases(hch b hb).1 with z | z
  ·exact hx z
  ·exact absurd (pL (bH e) z) (vf _)
 have cellK:∀x c,X.env.cells.lookup x=some c->∀v,s.heap.IsCell c v->h'.IsCell c v:=fun x c e v ⟨o,ho,hd⟩=>by
  have nch:c∉ch:=fun z=>(hch c z).2.2.1 x c e rfl;by_cases hc:c∈X.fs
  ·obtain⟨sl,q⟩:=slot c o (I.Yw x c e) hc nch ho (I.kZ x c e);exact⟨_,q,hd⟩
  ·exact⟨o,keep c o (I.Yw x c e) hc nch ho (I.kZ x c e),hd⟩
 refine⟨I.ok,I.os,hg,⟨fun b o e n hb hx=>?_,fun b o e n hb hx=>?_,fun b o e n hx=>?_,fun b o e hx=>?_,fun b xs e=>tups b xs (I.base.tups b xs e),fun b o xs e=>vN b o xs (I.base.vN b o xs e),fun b ps e=>?_⟩,?_,fun x c e=>?_,?_,fun x c e=>?_,fun p hp=>?_,hok,I.len⟩
 ·exact keep b o (neL b o e) hb (neC b o e hx) (I.base.keep b o e n hb hx) (I.base.free b o e n hx)
 ·obtain⟨sl,e1⟩:=I.base.slot b o e n hb hx;obtain⟨sl',e2⟩:=slot b _ (neL b o e) hb (neC b o e hx) e1 (I.base.free b o e n hx);exact⟨sl',e2⟩
 ·obtain⟨o',e1⟩:=I.base.there b o e hx;exact free b o' (neC b o e hx) e1 (I.base.free b o e n hx)
 ·obtain⟨o',e1⟩:=I.base.there b o e hx;exact there b o' (neC b o e hx) e1
 ·obtain⟨m1,e1⟩:=I.base.yP b ps e;obtain⟨m2,e2⟩:=yP b _ e1;exact⟨m1++m2,by rw[e2,Array.append_assoc]⟩
 ·obtain⟨m,hn,hl⟩:=I.loc;refine⟨m,ns m hn,fun i x v e1 e2 e3=>?_⟩;obtain⟨u,r,l⟩:=hl i x v e1 e2 e3;refine⟨u,r,?_⟩;rcases l with l | ⟨k,c,e,z⟩
  ·exact .inl l
  ·exact .inr ⟨k,c,e,cellK x c e _ z⟩
 ·obtain⟨v,z⟩:=I.cell x c e;exact⟨v,cellK x c e v z⟩
 ·obtain⟨m,⟨o,_,_,ho,_⟩,_⟩:=I.loc;exact free _ o (fun z=>(hch _ z).2.1 rfl) ho I.free
 ·obtain⟨v,o,ho,hd⟩:=I.cell x c e;exact free c o (fun z=>(hch c z).2.2.1 x c e rfl) ho (I.kZ x c e)
 ·obtain⟨e,n,ne,nf,d⟩:=I.pin p hp;have nch:p.1∉ch:=fun z=>(hch p.1 z).2.2.2 p hp rfl;exact⟨keep p.1 p.2 ne nf nch e n,free p.1 p.2 nch e n,ne,nf,d⟩
theorem Inv.un{t':Nat}(I:Inv X ae σ H s)(u:Un X.fs [] H H' s.heap h')(hok:jK X.prog X.w H' h'):Inv X ae σ H' { s with heap:=h',toks:=t' }:=by
 obtain⟨m,⟨o,es,ep,ho,r⟩,_⟩:=id I.loc;obtain⟨sl,hL⟩:=u.any ho I.free (by simp)
 exact I.step (g':=s.gens) (d':=s.drawn) (ch:=[]) (fun _ z=>nomatch z) (fun b o _ hb _ e n=>u.keep b o e n hb (by simp)) (fun b o _ hb _ e n=>u.slot b o e n hb (by simp)) (fun b o _ e n=>u.free b o e n (by simp)) (fun b o _ e=>u.there b o e (by simp)) u.tups u.vN u.yP (fun m' hm=>by
  obtain⟨o',es',ep',ho',r'⟩:=hm;rw[ho] at ho'; cases ho'
  exact⟨_,es',ep',hL,r'⟩) hok I.bare
theorem Inv.call{g':Array GenState}{t':Nat}{d':Drawn}{ch:List Addr}(I:Inv X ae σ H s)(u:Un (frs X.stack) ch H H' s.heap h')(hok:jK X.prog X.w H' h')(hg:AllBare g')
  (hch:∀b∈ch,(b∈X.ex\/X.s₀.heap.objs.size<=b)/\b≠X.env.locals/\(∀x c,X.env.cells.lookup x=some c->c≠b)/\∀p∈X.pn++ae,p.1≠b) :
  Inv X ae σ H' { s with heap:=h',gens:=g',drawn:=d',toks:=t' }:=by
 obtain⟨m,⟨o,es,ep,ho,r⟩,_⟩:=id I.loc;obtain⟨sl,hL⟩:=u.any ho I.free fun z=>(hch _ z).2.1 rfl
 exact I.step (ch:=ch) hch (fun b o hL hb hc e n=>u.keep b o e n (fun z=>(bB.mp (I.Ih b z)).elim hL hb) hc) (fun b o _ _ hc e n=>u.any e n hc) (fun b o hc e n=>u.free b o e n hc) (fun b o hc e=>u.there b o e hc) u.tups u.vN u.yP (fun m' hm=>by
  obtain⟨o',es',ep',ho',r'⟩:=hm;rw[ho] at ho'; cases ho'
  exact⟨_,es',ep',hL,r'⟩) hok hg
theorem Inv.turned{t':Nat}{it:Addr}(I:Inv X ae σ H s)(k:∀b o,b≠it->s.heap.get? b=some o->h'.get? b=some o)(hn:H it=none)(hL:it≠X.env.locals)
  (h1:it∈X.ex\/X.s₀.heap.objs.size<=it) (h2:∀x c,X.env.cells.lookup x=some c->c≠it) (h3:∀p∈X.pn++ae,p.1≠it):Inv X ae σ H { s with heap:=h',toks:=t' }:=by
 have nit:∀b u,H b=some u->b≠it:=fun b u e z=>by rw[z,hn] at e; cases e
 refine I.step (g':=s.gens) (d':=s.drawn) (ch:=[it]) (fun b hb=>?_) (fun b o _ _ hc e _=>k b o (fun z=>hc (by simp[z])) e) (fun b o _ _ hc e _=>⟨o.slots,k b o (fun z=>hc (by simp[z])) e⟩) (fun _ _ _ _ n=>n)
  (fun b o hc e=>⟨o,k b o (fun z=>hc (by simp[z])) e⟩) (fun _ _ e=>e) (fun _ _ _ e=>e) (fun b ps e=>⟨#[],by rw[e]; simp⟩) (fun m hm=>?_) (fun b u e=>?_) I.bare
 ·have e:b=it:=by simpa using hb
  subst e;exact⟨h1,hL,h2,h3⟩
 ·obtain⟨o,es,ep,ho,r⟩:=hm;exact⟨o,es,ep,k _ o (Ne.symm hL) ho,r⟩
 ·refine(I.hok b u e).stay (fun c v hc q=>k c v ?_ q) (fun _ q=>q) fun _ _ q=>q;rcases hc with z | z
  ·rw[z]; exact nit b u e
  ·exact nit c _ z
theorem Inv.tok(I:Inv X ae σ H s)(t:Nat):Inv X ae σ H { s with toks:=t }:=I.un (h':=s.heap) (t':=t) Un.refl I.hok
theorem Inv.kept{t':Nat}(I:Inv X ae σ H s)(k:∀b u,s.heap.get? b=some u->h'.get? b=some u):Inv X ae σ H { s with heap:=h',toks:=t' }:=I.un (Un.kept k) (I.hok.kept k)
theorem Inv.laid{a:Addr}{o:HO}{t':Nat}(I:Inv X ae σ H s)(k:∀b u,s.heap.get? b=some u->h'.get? b=some u)(hp:s.heap.objs.size<=a)(new:b_ X.prog X.w (upd H a o) h' a o) :
  Inv X ae σ (upd H a o) { s with heap:=h',toks:=t' }:=I.un (Un.laid k hp (I.hok.fresh hp)) (I.hok.laid k hp new)
theorem Inv.write{x e:Addr}{o:HO}{t':Nat}(I:Inv X ae σ H s)(mu:Mut (H x))(he:e=x\/H e=some (.own x))(k:∀b u,b≠e->s.heap.get? b=some u->h'.get? b=some u)(heo:∃u,h'.get? e=some u)
  (new:b_ X.prog X.w (upd H x o) h' x o):Inv X ae σ (upd H x o) { s with heap:=h',toks:=t' }:=I.un (Un.write mu he k heo) (I.hok.write mu he k heo new)
theorem Inv.weak{σ':List (Option V)}(I:Inv X ae σ H s)(hl:σ'.length=σ.length)(w:∀(i:Nat) v,σ'[i]?=some (some v)->σ[i]?=some (some v)):Inv X ae σ' H s:=
 ⟨I.ok,I.os,I.bare,I.base,let ⟨m,hn,hl'⟩:=I.loc; ⟨m,hn,fun i x v e1 e2 e3=>hl' i x v e1 (w i v e2) e3⟩,I.cell,I.free,I.kZ,I.pin,I.hok,hl.trans I.len⟩
theorem Inv.KD{V5:List (Addr×Obj)}(I:Inv X ae σ H s)(h:∀p∈V5,s.heap.get? p.1=some p.2/\H p.1=none/\p.1≠X.env.locals/\p.1∉X.fs/\∀v,p.2.data≠.cell v):Inv X V5 σ H s:=
 ⟨I.ok,I.os,I.bare,I.base,I.loc,I.cell,I.free,I.kZ,fun p hp=>(d_.mp hp).elim (fun z=>I.pin p (M3 _ z)) (h p),I.hok,I.len⟩
theorem GC{N:List Str}(hN:N.Nodup){i j:Nat}{x:Str}(a:N[i]?=some x)(b:N[j]?=some x):i=j:=by
 obtain⟨h1,e1⟩:=jF.mp a;obtain⟨h2,e2⟩:=jF.mp b;exact(List.getElem_inj hN).mp (e1.trans e2.symm)
theorem MF{M:Model}{A:Around}{E:AA->AB->Prop}{i:Nat}{x:Str}{v:V}{u:AA}{Q:Unit->AB->Prop}(I:Inv X ae σ H s)(hN:X.N.Nodup)(hi:X.N[i]?=some x)(hx:Loc X.env.scope x)(r:RelV v u)
  (h:∀s',Inv X ae (σ.set i (some v)) H s'->(∃a,Heap.SameBut a s.heap s'.heap/\(a=X.env.locals\/X.env.cells.lookup x=some a))->Q () s') (hf: autoParam (X.fn x=true\/X.env.scope.names.lookup x=some .local) z_d._auto_1):wpAny M A (storeName X.env x u) Q E s:=by
 obtain⟨m,hn,hl⟩:=id I.loc;have hcls:(X.env.scope.kind==.class || (X.env.scope.kind==.module&&X.env.locals != X.env.globals))=false:=by rw[I.ok.kind]; rfl
 have hiσ:i<σ.length:=by rw[I.len]; exact(jF.mp hi).1
 have Yw:=I.Yw
 have tracked:∀{a:Addr}{h':Heap},(∃o,s.heap.get? a=some o/\H a=none)->Heap.SameBut a s.heap h'->jK X.prog X.w H h':=fun {a h'} ha hs b ob e=>by
  obtain⟨_,_,hfree⟩:=ha;refine(I.hok b ob e).stay (fun c w' hc q=>(hs.2 c ?_).trans q) (fun _ q=>q) fun _ _ q=>q;rintro rfl;rcases hc with rfl | hc
  ·rw[hfree] at e; cases e
  ·rw[hfree] at hc; cases hc
 rcases hx with hk | hk
 ·refine wpAny_storeName_local hk hn (fun h' hn' hs=>?_) hcls;obtain⟨oL,_,_,hoL,_⟩:=id hn;refine h _ ⟨I.ok,I.os,I.bare,⟨fun b o e n hb hx=>?_,fun b o e n hb hx=>?_,I.base.free,fun b o e hx=>?_,I.base.tups,I.base.vN,I.base.yP⟩,⟨_,hn',fun j y v' e1 e2 e3=>?_⟩,fun y c e=>?_,I.free,I.kZ,fun p hp=>?_,tracked ⟨oL,hoL,I.free⟩ hs,by simpa using I.len⟩ ⟨_,hs,.inl rfl⟩
  ·exact(hs.2 b (dJ (pL (bH e) I.ok.above))).trans (I.base.keep b o e n hb hx)
  ·obtain⟨sl,e1⟩:=I.base.slot b o e n hb hx;exact⟨sl,(hs.2 b (dJ (pL (bH e) I.ok.above))).trans e1⟩
  ·obtain⟨o',e1⟩:=I.base.there b o e hx;exact⟨o',(hs.2 b (dJ (pL (bH e) I.ok.above))).trans e1⟩
  ·by_cases hj:j=i
   ·subst hj;rw[hi] at e1; cases e1;rw[Ks hiσ] at e2;cases e2;exact⟨u,r,.inl ⟨hk,by simp⟩⟩
   ·rw[Gj (Ne.symm hj)] at e2;obtain⟨u',r',q⟩:=hl j y v' e1 e2 e3;refine⟨u',r',?_⟩;rcases q with⟨k,e⟩ | ⟨k,c,e,z⟩
    ·refine .inl ⟨k,?_⟩;have:y≠x:=fun e=>hj (GC hN e1 (e▸hi));simp[this,e]
    ·exact .inr ⟨k,c,e,z.sameBut hs (Yw y c e)⟩
  ·obtain⟨w',z⟩:=I.cell y c e;exact⟨w',z.sameBut hs (Yw y c e)⟩
  ·obtain⟨e,n,ne,nf,d⟩:=I.pin p hp;exact⟨(hs.2 p.1 ne).trans e,n,ne,nf,d⟩
 ·have hfn:X.fn x=true:=by
   rcases hf with z | z
   ·exact z
   ·rw[z] at hk; cases hk
  obtain⟨c,hc⟩:=I.ok.has x (.inl hk);obtain⟨w',z⟩:=I.cell x c hc;refine wpAny_storeName_cell I.ok.kind hk hc z (fun h' hc' hs=>?_);obtain⟨oc,hoc,ad6⟩:=id z;refine h { s with heap:=h' } ⟨I.ok,I.os,I.bare,⟨fun b o e n hb hx=>?_,fun b o e n hb hx=>?_,I.base.free,fun b o e hx=>?_,I.base.tups,I.base.vN,I.base.yP⟩,⟨m,hn.sameBut hs (Ne.symm (Yw x c hc)),fun j y v' e1 e2 e3=>?_⟩,fun y c' e=>?_,I.free,I.kZ,fun p hp=>?_,tracked ⟨oc,hoc,I.kZ x c hc⟩ hs,by simpa using I.len⟩ ⟨c,hs,.inr hc⟩
  ·exact(hs.2 b (dJ (pL (bH e) (I.ok.cab x c hfn hc)))).trans (I.base.keep b o e n hb hx)
  ·obtain⟨sl,e1⟩:=I.base.slot b o e n hb hx;exact⟨sl,(hs.2 b (dJ (pL (bH e) (I.ok.cab x c hfn hc)))).trans e1⟩
  ·obtain⟨o',e1⟩:=I.base.there b o e hx;exact⟨o',(hs.2 b (dJ (pL (bH e) (I.ok.cab x c hfn hc)))).trans e1⟩
  ·by_cases hj:j=i
   ·subst hj;rw[hi] at e1; cases e1;rw[Ks hiσ] at e2;cases e2;exact⟨u,r,.inr ⟨.inl hk,c,hc,hc'⟩⟩
   ·rw[Gj (Ne.symm hj)] at e2;obtain⟨u',r',q⟩:=hl j y v' e1 e2 e3;refine⟨u',r',?_⟩;rcases q with q | ⟨k,c',e,z'⟩
    ·exact .inl q
    ·refine .inr ⟨k,c',e,z'.sameBut hs ?_⟩;rintro rfl;exact hj (GC hN e1 (I.ok.inj _ _ _ e hc▸hi))
  ·by_cases hcc:c'=c
   ·subst hcc; exact⟨_,hc'⟩
   ·obtain⟨w2,z2⟩:=I.cell y c' e;exact⟨w2,z2.sameBut hs hcc⟩
  ·obtain⟨e,n,ne,nf,d⟩:=I.pin p hp;refine⟨(hs.2 p.1 ?_).trans e,n,ne,nf,d⟩;intro q;rw[q,hoc] at e;have q':oc=p.2:=Option.some.inj e;exact d w' (by rw[<- q']; exact ad6)
theorem g8{M:Model}{A:Around}{E:AA->AB->Prop}{i:Nat}{x:Str}{v:V}{u:AA}{Q:Unit->AB->Prop}(I:Inv X ae σ H s)(hN:X.N.Nodup)(hi:X.N[i]?=some x)(hx:Loc X.env.scope x)(r:RelV v u)
  (h:∀s',Inv X ae (σ.set i (some v)) H s'->Q () s') (hf: autoParam (X.fn x=true\/X.env.scope.names.lookup x=some .local) z_d._auto_1):wpAny M A (storeName X.env x u) Q E s:=
 MF I hN hi hx r (fun s' I' _=>h s' I') hf
theorem Inv.call'{s':AB}{ch:List Addr}(I:Inv X ae σ H s)(ho:s'.os=s.os)(u:Un (frs X.stack) ch H H' s.heap s'.heap)(hok:jK X.prog X.w H' s'.heap)(hg:AllBare s'.gens)
  (hch:∀b∈ch,(b∈X.ex\/X.s₀.heap.objs.size<=b)/\b≠X.env.locals/\(∀x c,X.env.cells.lookup x=some c->c≠b)/\∀p∈X.pn++ae,p.1≠b):Inv X ae σ H' s':=by
 obtain⟨h',g',d',t',o'⟩:=s';have e:o'=s.os:=ho;subst e;exact I.call (g':=g') (t':=t') (d':=d') u hok hg hch
end
abbrev XK:=AA->Option Addr->Hp->Prop
abbrev St:=List (Option V)
abbrev VK:=V->Hp->Prop
abbrev TE:=St->Hp->VK->Prop
abbrev TT:=St->Hp->(Bool->Hp->Prop)->Prop
abbrev TA:=St->Hp->(List V->Hp->Prop)->Prop
structure Ends where
 nx:St->Hp->Prop
 rt:VK
 bk:St->Hp->Prop:=fun _ _=>False
 ct:St->Hp->Prop:=fun _ _=>False
abbrev TS:=Ends->St->Hp->Prop
def EP(X:Cx)(ae:List (Addr×Obj))(σ:St)(Q:VK)(u:AA)(s':AB):Prop:=∃v H',Inv X ae σ H' s'/\RelV v u/\Q v H'
def TP(X:Cx)(ae:List (Addr×Obj))(σ:St)(Q:Bool->Hp->Prop)(b:Bool)(s':AB):Prop:=∃H',Inv X ae σ H' s'/\Q b H'
def AP(X:Cx)(ae:List (Addr×Obj))(σ:St)(Q:List V->Hp->Prop)(us:List AA)(s':AB):Prop:=∃vs H',Inv X ae σ H' s'/\Vals vs us/\Q vs H'
def SP(X:Cx)(ae:List (Addr×Obj))(D:Ends)(f:Flow)(s':AB):Prop:=
 match f with
 | .next=>∃σ' H',Inv X ae σ' H' s'/\D.nx σ' H'
 | .brk=>∃σ' H',Inv X ae σ' H' s'/\D.bk σ' H'
 | .cont=>∃σ' H',Inv X ae σ' H' s'/\D.ct σ' H'
 | .ret u=>∃v σ' H',Inv X ae σ' H' s'/\RelV v u/\D.rt v H'
structure PE(X:Cx)(e:Expr)(t:TE):Prop where
 mk ::
 go :
 ∀(ae:List (Addr×Obj))(s:AB)(σ:St)(H:Hp)(Q:VK),Inv X ae σ H s->t σ H Q->wpAny (model X.prog X.w) X.A (eval e X.env) (EP X ae σ Q) X.xe s
instance {X:Cx} {e:Expr} {t:TE}:CoeFun (PE X e t) (fun _=>
 ∀(ae:List (Addr×Obj))(s:AB)(σ:St)(H:Hp)(Q:VK),Inv X ae σ H s->t σ H Q->wpAny (model X.prog X.w) X.A (eval e X.env) (EP X ae σ Q) X.xe s):=⟨PE.go⟩
structure PT(X:Cx)(e:Expr)(t:TT):Prop where
 mk ::
 go :
 ∀(ae:List (Addr×Obj))(s:AB)(σ:St)(H:Hp)(Q:Bool->Hp->Prop),Inv X ae σ H s->t σ H Q->wpAny (model X.prog X.w) X.A (isTrue e X.env (eval e X.env)) (TP X ae σ Q) X.xe s
instance {X:Cx} {e:Expr} {t:TT}:CoeFun (PT X e t) (fun _=>
 ∀(ae:List (Addr×Obj))(s:AB)(σ:St)(H:Hp)(Q:Bool->Hp->Prop),Inv X ae σ H s->t σ H Q->wpAny (model X.prog X.w) X.A (isTrue e X.env (eval e X.env)) (TP X ae σ Q) X.xe s):=⟨PT.go⟩
structure PW(X:Cx)(e:Expr)(t:TT):Prop where
 mk ::
 go :
 ∀(whole:Sem AA)(ae:List (Addr×Obj))(s:AB)(σ:St)(H:Hp)(Q:Bool->Hp->Prop),Inv X ae σ H s->t σ H Q->wpAny (model X.prog X.w) X.A (isTrue e X.env whole) (TP X ae σ Q) X.xe s
instance {X:Cx} {e:Expr} {t:TT}:CoeFun (PW X e t) (fun _=>
 ∀(whole:Sem AA)(ae:List (Addr×Obj))(s:AB)(σ:St)(H:Hp)(Q:Bool->Hp->Prop),Inv X ae σ H s->t σ H Q->wpAny (model X.prog X.w) X.A (isTrue e X.env whole) (TP X ae σ Q) X.xe s):=⟨PW.go⟩
theorem PW.pt{X:Cx}{e:Expr}{t:TT}(h:PW X e t):PT X e t:=.mk <| h _
structure PA(X:Cx)(es:List Expr)(t:TA):Prop where
 mk ::
 go :
 ∀(pos:Pos)(ae:List (Addr×Obj))(s:AB)(σ:St)(H:Hp)(Q:List V->Hp->Prop),Inv X ae σ H s->t σ H Q->wpAny (model X.prog X.w) X.A (spliced (backTo pos (starEach es X.env))) (AP X ae σ Q) X.xe s
instance {X:Cx} {es:List Expr} {t:TA}:CoeFun (PA X es t) (fun _=>
 ∀(pos:Pos)(ae:List (Addr×Obj))(s:AB)(σ:St)(H:Hp)(Q:List V->Hp->Prop),Inv X ae σ H s->t σ H Q->wpAny (model X.prog X.w) X.A (spliced (backTo pos (starEach es X.env))) (AP X ae σ Q) X.xe s):=⟨PA.go⟩
structure PS(X:Cx)(st:Stmt)(t:TS):Prop where
 mk ::
 go :
 ∀(ae:List (Addr×Obj))(s:AB)(σ:St)(H:Hp)(D:Ends),Inv X ae σ H s->t D σ H->wpAny (model X.prog X.w) X.A (exec st X.env) (SP X ae D) X.xe s
instance {X:Cx} {st:Stmt} {t:TS}:CoeFun (PS X st t) (fun _=>
 ∀(ae:List (Addr×Obj))(s:AB)(σ:St)(H:Hp)(D:Ends),Inv X ae σ H s->t D σ H->wpAny (model X.prog X.w) X.A (exec st X.env) (SP X ae D) X.xe s):=⟨PS.go⟩
structure Ej(X:Cx)(st:List Stmt)(t:TS):Prop where
 mk ::
 go :
 ∀(ae:List (Addr×Obj))(s:AB)(σ:St)(H:Hp)(D:Ends),Inv X ae σ H s->t D σ H->wpAny (model X.prog X.w) X.A (execs st X.env) (SP X ae D) X.xe s
instance {X:Cx} {st:List Stmt} {t:TS}:CoeFun (Ej X st t) (fun _=>
 ∀(ae:List (Addr×Obj))(s:AB)(σ:St)(H:Hp)(D:Ends),Inv X ae σ H s->t D σ H->wpAny (model X.prog X.w) X.A (execs st X.env) (SP X ae D) X.xe s):=⟨Ej.go⟩
theorem cz{α:Type}{t:Sem α}{Q Q':α->AB->Prop}{M:Model}{A:Around}{E:AA->AB->Prop}{s:AB}(h:wpAny M A t Q E s)(hQ:∀a s,Q a s->Q' a s):wpAny M A t Q' E s:=nW h hQ fun _ _ x=>x
section
variable{X:Cx}
def mU(i:Nat):TE:=fun σ H Q=>match σ[i]? with
 | some (some v)=>Q v H
 | _=>False
theorem mU.ex{i:Nat}{σ:St}{H:Hp}{Q:VK}(h:mU i σ H Q):∃v,σ[i]?=some (some v)/\Q v H:=by
 unfold mU at h;split at h
 ·rename_i v e;exact⟨v,e,h⟩
 ·exact h.elim
def tC(v:V):TE:=fun _ H Q=>Q v H
theorem Xv{i:Nat}{x:Str}{pos:Pos}(hN:X.N[i]?=some x)(hv:Vis X.env.scope x)(hd:((x==("__debug__" : Str))=false)⁻¹)(hcd:((x==("__classdict__" : Str))=false)⁻¹):PE X (.Name x pos) (mU i):=by
 symm;intro Q I h;obtain⟨v,e,h⟩:=mU.ex h;obtain⟨m,hn,hl⟩:=I.loc;obtain⟨u,r,l⟩:=hl i x v hN e hv;have fin:EP X ae σ Q u s:=⟨v,H,I,r,h⟩;rcases l with⟨hk,hm⟩ | ⟨hk,c,hc,hcell⟩
 ·exact wpAny_Name (wpAny_loadName_local I.ok.kind hk hn hm fin) hd
 ·rcases hk with hk | hk
  ·exact wpAny_Name (wpAny_loadName_cell I.ok.kind hk hc hcell fin) hd
  ·exact wpAny_Name (wpAny_loadName_free I.ok.kind hk hc hcell fin hcd) hd
theorem ao{i j pos}:PE X (.Constant (.int i) j pos) (tC (.int i)):=.mk <| fun _ _ _ H _ I h=>wpAny_Constant_int ⟨.int i,H,I.tok _,⟨_,rfl⟩,h⟩
theorem pZ{b j pos}:PE X (.Constant (.bool b) j pos) (tC (.bl b)):=.mk <| fun _ _ _ H _ I h=>Constant_bool ⟨.bl b,H,I,rfl,h⟩
theorem ou{j pos}:PE X (.Constant .none j pos) (tC .non):=.mk <| fun _ _ _ H _ I h=>Constant_none ⟨.non,H,I,rfl,h⟩
theorem fZ{x j pos}:PE X (.Constant (.str x) j pos) (tC (.str x)):=.mk <| fun _ _ _ H _ I h=>Calls.Constant_str ⟨.str x,H,I.tok _,⟨_,rfl⟩,h⟩
def Gl(X:Cx)(x:Str):Prop:=X.env.kindOf x=some .globalImplicit
theorem vY{E:AA->AB->Prop}{ae:List (Addr×Obj)}{s:AB}{σ:St}{H:Hp}{x:Str}{u:AA}{pos:Pos}{Q:AA->AB->Prop}(I:Inv X ae σ H s)(hg:Gl X x)(hm:X.mg x=some u)(h:Q u s)
  (hd:((x==("__debug__" : Str))=false)⁻¹):wpAny (model X.prog X.w) X.A (eval (.Name x pos) X.env) Q E s:=
 Calls.Name_function_global I.ok.kind hg (Calls.loadGlobal_global (by rw[I.ok.glob]; exact I.mod.glob.keeps I.bk) hm h) hd
theorem iw{E:AA->AB->Prop}{ae:List (Addr×Obj)}{s:AB}{σ:St}{H:Hp}{x:Str}{u:AA}{pos:Pos}{Q:AA->AB->Prop}(I:Inv X ae σ H s)(hg:Gl X x)(hm:X.mg x=none)(hv:bootBuiltins x=some u)(h:Q u s)
  (hn:(x ≠ "__name__")⁻¹) (hd:((x==("__debug__" : Str))=false)⁻¹):wpAny (model X.prog X.w) X.A (eval (.Name x pos) X.env) Q E s:=by
 obtain⟨mb,h1,h2⟩:=I.mod.blt;exact Calls.Name_function_global I.ok.kind hg (Calls.loadGlobal_builtin (by rw[I.ok.glob]; exact I.mod.glob.keeps I.bk) hm (by rw[I.ok.blt]; exact h1.keeps I.bk) ((h2 x hn).trans hv) h) hd
theorem CV{x:Str}{v:V}{u:AA}{pos:Pos}(hg:Gl X x)(hm:X.mg x=some u)(r:RelV v u)(hd:((x==("__debug__" : Str))=false)⁻¹):PE X (.Name x pos) (tC v):=
 .mk <| fun _ _ _ H _ I h=>vY I hg hm ⟨v,H,I,r,h⟩ hd
theorem Ui{x:Str}{v:V}{u:AA}{pos:Pos}(hg:Gl X x)(hm:X.mg x=none)(hv:bootBuiltins x=some u)(r:RelV v u)(hn:(x ≠ "__name__")⁻¹)(hd:((x==("__debug__" : Str))=false)⁻¹):PE X (.Name x pos) (tC v):=
 .mk <| fun _ _ _ H _ I h=>iw I hg hm hv ⟨v,H,I,r,h⟩ hn hd
variable{a b:Expr}{ta tb:TE}{pos:Pos}
def tB(t:TE):TT:=fun σ H Q=>t σ H fun x H1=>∃c,x=.bl c/\Q c H1
theorem gK{e:Expr}{t:TE}(h:PE X e t)(he:‹∀whole,isTrue e X.env whole=(do let v <- whole; standAt e.pos; holding [v] (truthy v))›):PT X e (tB t):=by
 symm;intro Q I hw;refine isTrue_plain (cz (h ae s σ H _ I hw) fun v s1 ⟨x,H1,I1,r1,q1⟩=>?_) (he _);obtain⟨d,rfl,q⟩:=q1;cases r1;exact IW ⟨H1,I1,q⟩
variable{tA tB':TT}{rest:List Expr}
def Ff(t u:TT):TT:=fun σ H Q=>t σ H fun c H1=>if c=true then u σ H1 Q else Q false H1
def VL(t u:TT):TT:=fun σ H Q=>t σ H fun c H1=>if c=true then Q true H1 else u σ H1 Q
def Ez(t:TT):TT:=fun σ H Q=>t σ H fun c H1=>Q (!c) H1
theorem vV(ha:PT X a tA):PW X (.BoolOp .And [a] pos) tA:=by
 refine .mk ?_;intro wh ae s σ H Q I h;refine isTrue_and (cz (ha ae s σ H Q I h) fun c s1 e=>?_);cases c with
 | true=>exact isTrue_and_nil e
 | false=>exact e
theorem lU(ha:PT X a tA):PW X (.BoolOp .Or [a] pos) tA:=by
 refine .mk ?_;intro wh ae s σ H Q I h;refine isTrue_or (cz (ha ae s σ H Q I h) fun c s1 e=>?_);cases c with
 | false=>exact isTrue_or_nil e
 | true=>exact e
theorem Cw(ha:PT X a tA)(hb:PW X (.BoolOp .And (b::rest) pos) tB'):PW X (.BoolOp .And (a::b::rest) pos) (Ff tA tB'):=by
 refine .mk ?_;intro wh ae s σ H Q I h;refine isTrue_and (cz (ha ae s σ H _ I h) fun c s1 qx=>?_);obtain⟨H1,I1,q1⟩:=qx;cases c with
 | true=>exact hb wh ae s1 σ H1 Q I1 q1
 | false=>exact⟨H1,I1,q1⟩
theorem rK(ha:PT X a tA)(hb:PW X (.BoolOp .Or (b::rest) pos) tB'):PW X (.BoolOp .Or (a::b::rest) pos) (VL tA tB'):=by
 refine .mk ?_;intro wh ae s σ H Q I h;refine isTrue_or (cz (ha ae s σ H _ I h) fun c s1 qx=>?_);obtain⟨H1,I1,q1⟩:=qx;cases c with
 | true=>exact⟨H1,I1,q1⟩
 | false=>exact hb wh ae s1 σ H1 Q I1 q1
theorem n_(ha:PT X a tA):PT X (.UnaryOp .Not a pos) (Ez tA):=by
 symm;intro Q I h;exact isTrue_not (ha ae s σ H (fun c H1=>Q (!c) H1) I h)
def uJ(ta tb:TE):TE:=fun σ H Q=>ta σ H fun x H1=>∃c,x=.bl c/\if c=true then tb σ H1 Q else Q (.bl false) H1
def H_(ta tb:TE):TE:=fun σ H Q=>ta σ H fun x H1=>∃c,x=.bl c/\if c=true then Q (.bl true) H1 else tb σ H1 Q
def wL(ta:TE):TE:=fun σ H Q=>ta σ H fun x H1=>∃c,x=.bl c/\Q (.bl (!c)) H1
theorem Jb{op}{t:TE}(h:PE X a t):PE X (.BoolOp op [a] pos) t:=.mk <| fun ae s σ H Q I hw=>BoolOp_one (h ae s σ H Q I hw)
theorem CW(ha:PE X a ta)(hb:PE X (.BoolOp .And (b::rest) pos) tb):PE X (.BoolOp .And (a::b::rest) pos) (uJ ta tb):=by
 symm;intro Q I h;refine BoolOp_and (cz (ha ae s σ H _ I h) fun v s1 qx=>?_);obtain⟨x,H1,I1,r1,q1⟩:=qx;obtain⟨c,rfl,q1⟩:=q1;cases r1;refine IW ?_;cases c with
 | true=>exact hb ae s1 σ H1 Q I1 q1
 | false=>exact⟨.bl false,H1,I1,rfl,q1⟩
def Pu(t:TT)(ta tb:TE):TE:=fun σ H Q=>t σ H fun c H1=>if c=true then ta σ H1 Q else tb σ H1 Q
theorem gf{c:Expr}(hc:PT X c tA)(ha:PE X a ta)(hb:PE X b tb):PE X (.IfExp c a b pos) (Pu tA ta tb):=by
 symm;intro Q I h;refine wpAny_IfExp (cz (hc ae s σ H _ I h) fun d s1 qx=>?_);obtain⟨H1,I1,q1⟩:=qx;cases d with
 | true=>exact ha ae s1 σ H1 Q I1 q1
 | false=>exact hb ae s1 σ H1 Q I1 q1
end
def bT(K:Frag)(H:Hp)(a:Addr)(xs:List V):Prop:=
 Rd H a (.lst xs) \/
  ∃(o:Obj)(its:Array AA)(n:Nat),K.lookup a=some o/\o.cls=.type "list" /\ o.dict=none/\o.data=.seq its n/\its.size<=sizeLine/\Vals xs its.toList
def fK(K:Frag)(H:Hp)(a:Addr)(xs:List V):Prop:=
 Rd H a (.tup xs) \/
  ∃(o:Obj)(its:Array AA)(n:Nat),K.lookup a=some o/\o.cls=.type "tuple" /\ o.data=.seq its n/\its.size<=sizeLine/\Vals xs its.toList
def aeV:AA->Option V
 | .none=>some .non
 | .bool b=>some (.bl b)
 | .int i _=>some (.int i)
 | .str x _=>some (.str x)
 | .bytes b _=>some (.Oi b)
 | .float b _=>some (.flt b)
 | .ref a=>some (.ref a)
 | .type n=>some (.ty n)
 | _=>none
theorem RelV.abs{x:V}{u:AA}(r:RelV x u):aeV u=some x:=by
 cases x with
 | non=>cases r; rfl
 | bl _=>cases r; rfl
 | int _=>obtain⟨t,rfl⟩:=r; rfl
 | str _=>obtain⟨t,rfl⟩:=r; rfl
 | Oi _=>obtain⟨t,rfl⟩:=r; rfl
 | flt _=>obtain⟨t,rfl⟩:=r; rfl
 | ref _=>cases r; rfl
 | ty _=>cases r; rfl
theorem RelV.inj{x y:V}{u:AA}(r:RelV x u)(q:RelV y u):x=y:=Option.some.inj (r.abs.symm.trans q.abs)
theorem Vals.inj:∀{xs ys:List V}{us:List AA},Vals xs us->Vals ys us->xs=ys
 | _,_,_,.nil,.nil=>rfl
 | _,_,_,.cons r t,.cons r' t'=>by rw[r.inj r',Vals.inj t t']
section
variable{X:Cx}{ae:List (Addr×Obj)}{σ:St}{H:Hp}{s:AB}{a:Addr}{xs ys:List V}
theorem bT.of{K:Frag}(h:H a=some (.lst xs)):bT K H a xs:=.inl (.inl h)
theorem fK.of{K:Frag}(h:H a=some (.tup xs)):fK K H a xs:=.inl (.inl h)
theorem Inv.list(I:Inv X ae σ H s)(h:bT X.K H a xs):∃its:List AA,Vals xs its/\PlainL s.heap a its.toArray/\xs.length<=sizeLine:=by
 rcases h with h | ⟨o,its,n,hk,hc,hd,hs,hz,r⟩
 ·obtain⟨z,its,n,r,e⟩:=h.ok I.hok;exact⟨its,r,⟨_,n,e,rfl,rfl,rfl⟩,z⟩
 ·refine⟨its.toList,r,⟨o,n,I.vK a o hk,hc,hd,by simpa using hs⟩,?_⟩
  have e:=r.length;simp only[Array.length_toList] at e;omega
theorem Inv.tuple(I:Inv X ae σ H s)(h:fK X.K H a xs):∃its:List AA,Vals xs its/\IsTup s.heap a its.toArray/\xs.length<=sizeLine:=by
 rcases h with h | ⟨o,its,n,hk,hc,hs,hz,r⟩
 ·obtain⟨z,its,r,p⟩:=h.ok I.hok;exact⟨its,r,p,z⟩
 ·refine⟨its.toList,r,⟨o,I.vK a o hk,hc,n,by simpa using hs⟩,?_⟩
  have e:=r.length;simp only[Array.length_toList] at e;omega
theorem Inv.ym(I:Inv X ae σ H s)(h:bT X.K H a xs)(h':bT X.K H a ys):xs=ys:=by
 obtain⟨its,r,⟨o,n,e,_,_,d⟩,_⟩:=I.list h;obtain⟨its',r',⟨o',n',e',_,_,d'⟩,_⟩:=I.list h';rw[e] at e'; cases e';rw[d] at d';injection d' with d1 _
 have:its=its':=by simpa using pI Array.toList d1
 subst this;exact r.inj r'
theorem Inv.Mw(I:Inv X ae σ H s)(h:fK X.K H a xs)(h':fK X.K H a ys):xs=ys:=by
 obtain⟨its,r,⟨o,e,_,n,d⟩,_⟩:=I.tuple h;obtain⟨its',r',⟨o',e',_,n',d'⟩,_⟩:=I.tuple h';rw[e] at e'; cases e';rw[d] at d';injection d' with d1 _
 have:its=its':=by simpa using pI Array.toList d1
 subst this;exact r.inj r'
end
abbrev Cx.wish(X:Cx)(E:AA->AB->Prop):Cx:={ X with xe:=E }
abbrev Cx.Zj(X:Cx):Cx:=X.wish fun _ _=>False
theorem Cx.Ok.wish{X:Cx}(ok:X.Ok)(E:AA->AB->Prop):(X.wish E).Ok:=
 ⟨ok.mod,ok.kind,ok.glob,ok.blt,ok.above,ok.inj,ok.has,ok.cab,ok.hd,ok.frames,ok.stk,ok.exf,ok.bs,ok.R0,ok.Nr,ok.N8,ok.vM,ok.Yj⟩
theorem Cx.Ok.m9{X:Cx}{E:AA->AB->Prop}(ok:(X.wish E).Ok):X.Ok:=
 ⟨ok.mod,ok.kind,ok.glob,ok.blt,ok.above,ok.inj,ok.has,ok.cab,ok.hd,ok.frames,ok.stk,ok.exf,ok.bs,ok.R0,ok.Nr,ok.N8,ok.vM,ok.Yj⟩
section
variable{X:Cx}{ae:List (Addr×Obj)}{σ:St}{H:Hp}{s:AB}{E:AA->AB->Prop}
theorem Inv.wish(I:Inv X ae σ H s)(E:AA->AB->Prop):Inv (X.wish E) ae σ H s:=⟨I.ok.wish E,I.os,I.bare,I.base,I.loc,I.cell,I.free,I.kZ,I.pin,I.hok,I.len⟩
theorem Inv.m9(I:Inv (X.wish E) ae σ H s):Inv X ae σ H s:=⟨I.ok.m9,I.os,I.bare,I.base,I.loc,I.cell,I.free,I.kZ,I.pin,I.hok,I.len⟩
theorem SP.m9{D:Ends}{f:Flow}{s':AB}(h:SP (X.wish E) ae D f s'):SP X ae D f s':=by
 cases f with
 | next=>obtain⟨σ',H',I,q⟩:=h; exact⟨σ',H',I.m9,q⟩
 | brk=>obtain⟨σ',H',I,q⟩:=h; exact⟨σ',H',I.m9,q⟩
 | cont=>obtain⟨σ',H',I,q⟩:=h; exact⟨σ',H',I.m9,q⟩
 | ret u=>obtain⟨v,σ',H',I,r,q⟩:=h; exact⟨v,σ',H',I.m9,r,q⟩
theorem Ej.Zj{st:List Stmt}{t:TS}(h:Ej X.Zj st t):Ej X st t:=.mk <| fun ae s σ H D I hw=>
 nW (h ae s σ H D (I.wish _) hw) (fun _ _ q=>q.m9) fun _ _ z=>False.elim z
end
section
variable{X:Cx}{st:Stmt}{rest:List Stmt}{t u:TS}{e:Expr}{te:TE}{pos:Pos}
def uE:TS:=fun D σ H=>D.nx σ H
def lF(t u:TS):TS:=fun D σ H=>t { D with nx:=u D } σ H
theorem bI:Ej X [] uE:=.mk <| fun _ _ σ H _ I h=>wpAny_execs_nil ⟨σ,H,I,h⟩
theorem aq(h1:PS X st t)(h2:Ej X rest u):Ej X (st::rest) (lF t u):=by
 symm;intro D I h;refine wpAny_execs_cons (cz (h1 ae s σ H { D with nx:=u D } I h) fun f s1 q=>?_)
 cases f with
 | next=>
  obtain⟨σ',H',I',q⟩:=q;exact h2 ae s1 σ' H' D I' q
 | ret v=>exact q
 | brk=>exact q
 | cont=>exact q
theorem aF(h1:PS X st t):Ej X [st] t:=by
 symm;intro D I h;refine wpAny_execs_cons (cz (h1 ae s σ H D I h) fun f s1 q=>?_);cases f with
 | next=>exact wpAny_execs_nil q
 | ret v=>exact q
 | brk=>exact q
 | cont=>exact q
theorem Inv.quiet{ae:List (Addr×Obj)}{σ:St}{H:Hp}{s:AB}(I:Inv X ae σ H s):interactive X.env=false:=by simp[interactive,I.ok.kind]
def uH(te:TE):TS:=fun D σ H=>te σ H fun _ H1=>D.nx σ H1
theorem dq(he:PE X e te)(hs: ~~~(swapsWith e none pos.line X.env=pure false)):PS X (.Expr e pos) (uH te):=by
 symm;intro D I h;exact wpAny_Expr_any (cz (he ae s σ H _ I h) fun v s1 ⟨x,H1,I1,r1,q1⟩=>⟨σ,H1,I1,q1⟩) I.quiet hs
def Ex(te:TE):TS:=fun D σ H=>te σ H D.rt
theorem aZ(he:PE X e te):PS X (.Return (some e) pos) (Ex te):=by
 symm;intro D I h;exact wpAny_Return_some (cz (he ae s σ H _ I h) fun v s1 ⟨x,H1,I1,r1,q1⟩=>⟨x,σ,H1,I1,r1,q1⟩)
def wK:TS:=fun D _ H=>D.rt .non H
def yQ(c:TT)(t u:TS):TS:=fun D σ H=>c σ H fun b H1=>if b=true then t D σ H1 else u D σ H1
theorem cN{c:Expr}{a b:List Stmt}{tc:TT}(hc:PT X c tc)(ha:Ej X a t)(hb:Ej X b u):PS X (.If c a b pos) (yQ tc t u):=by
 symm;intro D I h;refine wpAny_If (cz (hc ae s σ H _ I h) fun d s1 qx=>?_);obtain⟨H1,I1,q1⟩:=qx;cases d with
 | true=>exact ha ae s1 σ H1 D I1 q1
 | false=>exact hb ae s1 σ H1 D I1 q1
end
abbrev TG:=V->St->Hp->(St->Hp->Prop)->Prop
abbrev R5:=List V->St->Hp->(St->Hp->Prop)->Prop
structure PG(X:Cx)(target:Expr)(t:TG):Prop where
 mk ::
 go :
 ∀(ae:List (Addr×Obj))(s:AB)(σ:St)(H:Hp)(v:V)(u:AA)(Q:St->Hp->Prop),Inv X ae σ H s->RelV v u->t v σ H Q ->
  wpAny (model X.prog X.w) X.A (assign target X.env u) (fun _ s'=>∃σ' H',Inv X ae σ' H' s'/\Q σ' H') X.xe s
instance {X:Cx} {target:Expr} {t:TG}:CoeFun (PG X target t) (fun _=>
 ∀(ae:List (Addr×Obj))(s:AB)(σ:St)(H:Hp)(v:V)(u:AA)(Q:St->Hp->Prop),Inv X ae σ H s->RelV v u->t v σ H Q ->
  wpAny (model X.prog X.w) X.A (assign target X.env u) (fun _ s'=>∃σ' H',Inv X ae σ' H' s'/\Q σ' H') X.xe s):=⟨PG.go⟩
structure YL(X:Cx)(ts:List Expr)(t:R5):Prop where
 mk ::
 go :
 ∀(ae:List (Addr×Obj))(s:AB)(σ:St)(H:Hp)(vs:List V)(us:List AA)(Q:St->Hp->Prop),Inv X ae σ H s->Vals vs us->t vs σ H Q ->
  wpAny (model X.prog X.w) X.A (assignInOrder ((assignEach ts X.env).map (·.2)) us) (fun _ s'=>∃σ' H',Inv X ae σ' H' s'/\Q σ' H') X.xe s
instance {X:Cx} {ts:List Expr} {t:R5}:CoeFun (YL X ts t) (fun _=>
 ∀(ae:List (Addr×Obj))(s:AB)(σ:St)(H:Hp)(vs:List V)(us:List AA)(Q:St->Hp->Prop),Inv X ae σ H s->Vals vs us->t vs σ H Q ->
  wpAny (model X.prog X.w) X.A (assignInOrder ((assignEach ts X.env).map (·.2)) us) (fun _ s'=>∃σ' H',Inv X ae σ' H' s'/\Q σ' H') X.xe s):=⟨YL.go⟩
abbrev Om:=V->V->V->Hp->(Hp->Prop)->Prop
structure Oo(X:Cx)(t:Om):Prop where
 mk ::
 go :
 ∀(ae:List (Addr×Obj))(s:AB)(σ:St)(H:Hp)(o i v:V)(ov iv u:AA)(Q:Hp->Prop),Inv X ae σ H s->RelV o ov->RelV i iv->RelV v u->t o i v H Q ->
  wpAny (model X.prog X.w) X.A (setItem ov iv u) (fun _ s'=>∃H',Inv X ae σ H' s'/\Q H') X.xe s
instance {X:Cx} {t:Om}:CoeFun (Oo X t) (fun _=>
 ∀(ae:List (Addr×Obj))(s:AB)(σ:St)(H:Hp)(o i v:V)(ov iv u:AA)(Q:Hp->Prop),Inv X ae σ H s->RelV o ov->RelV i iv->RelV v u->t o i v H Q ->
  wpAny (model X.prog X.w) X.A (setItem ov iv u) (fun _ s'=>∃H',Inv X ae σ H' s'/\Q H') X.xe s):=⟨Oo.go⟩
abbrev Zx:=V->V->Hp->VK->Prop
def PIp(X:Cx)(op:Operator)(t:Zx):Prop:=
 ∀(ae:List (Addr×Obj))(s:AB)(σ:St)(H:Hp)(x y:V)(v u:AA)(Q:VK),Inv X ae σ H s->RelV x v->RelV y u->t x y H Q ->
  wpAny (model X.prog X.w) X.A (inplaceOp op v u) (EP X ae σ Q) X.xe s
section
variable{X:Cx}{pos:Pos}
def dh(i:Nat):TG:=fun v σ H Q=>Q (σ.set i (some v)) H
theorem aC{i:Nat}{x:Str}(hN: autoParam (X.N.Nodup) z_e._auto_1)(hi: ~~~(X.N[i]?=some x))(hx: autoParam (Loc X.env.scope x) z_f._auto_1)(hf: autoParam (X.fn x=true\/X.env.scope.names.lookup x=some .local) z_d._auto_1):PG X (.Name x pos) (dh i):=by
 symm;intro v u Q I r h;exact wpAny_assign_Name (g8 I hN hi hx r (fun s' I'=>⟨_,H,I',h⟩) hf)
theorem aCN (L:List Str) (i:Nat){x:Str}(hN: ~~~(X.N=L))(hd:(L.Nodup)⁻¹)(hi: ~~~(L[i]?=some x))(hx:Loc X.env.scope x:=by exact .inl (gB rfl))(hf:X.fn x=true\/X.env.scope.names.lookup x=some .local:=by exact .inr (gB rfl)):PG X (.Name x pos) (dh i):=aC (by rw[hN]; exact hd) (by rw[hN]; exact hi) hx hf
def GZ:R5:=fun vs σ H Q=>match vs with
 | []=>Q σ H
 | _=>False
theorem GZ.ex{vs:List V}{σ:St}{H:Hp}{Q:St->Hp->Prop}(h:GZ vs σ H Q):vs=[]/\Q σ H:=by
 cases vs with
 | nil=>exact⟨rfl,h⟩
 | cons a b=>exact h.elim
def mR(t:TG)(u:R5):R5:=fun vs σ H Q=>match vs with
 | v::r=>t v σ H fun σ' H'=>u r σ' H' Q
 | []=>False
theorem mR.ex{t:TG}{u:R5}{vs:List V}{σ:St}{H:Hp}{Q:St->Hp->Prop}(h:mR t u vs σ H Q):∃v r,vs=v::r/\t v σ H fun σ' H'=>u r σ' H' Q:=by
 cases vs with
 | nil=>exact h.elim
 | cons a b=>exact⟨a,b,rfl,h⟩
theorem bC:YL X [] GZ:=by
 symm;intro vs us Q I r h;obtain⟨e,h⟩:=GZ.ex h;subst e;cases r;exact assignInOrder_nil ⟨σ,H,I,h⟩
theorem aB{e:Expr}{es:List Expr}{t:TG}{u:R5}(h1:PG X e t)(h2:YL X es u)
  (hs: ~~~((assignEach (e::es) X.env).map (·.2)=assign e X.env::(assignEach es X.env).map (·.2))):YL X (e::es) (mR t u):=by
 symm;intro vs us Q I r h;obtain⟨v,vr,e1,h⟩:=mR.ex h;subst e1;cases r with
 | cons r rr=>
  rw[hs];refine assignInOrder_cons (cz (h1 ae s σ H _ _ _ I r h) fun _ s1 qx=>?_);obtain⟨σ1,H1,I1,q1⟩:=qx;exact h2 ae s1 σ1 H1 _ _ Q I1 rr q1
def Rn(K:Frag)(n:Nat)(t:R5):TG:=fun v σ H Q=>∃a xs,v=.ref a/\fK K H a xs/\xs.length=n/\t xs σ H Q
theorem ud{es:List Expr}{k:Nat}{t:R5}{n:Nat}(hc:X.calm=true)(h:YL X es t)
  (hn: ~~~((assignEach es X.env).length=n)) (hst: ~~~((assignEach es X.env).findIdx? (·.1)=none)):PG X (.Tuple es k pos) (Rn X.K n t):=by
 symm;intro v u Q I r hw;obtain⟨a,xs,e1,hq,hl,hw⟩:=hw;subst e1;cases r;obtain⟨its,rv,ht,hz⟩:=I.tuple hq;refine assign_Tuple_tuple (I.ok.hd hc) ht (by simp[hn,<- hl,rv.length]) hst fun h' hx=>?_
 have I1:Inv X ae σ H { s with heap:=h' }:=I.kept (t':=s.toks) fun b o e=>hx b o (dJ (bH e)) e
 exact h ae _ σ H xs _ Q I1 (by simpa using rv) hw
def GX(to ti:TE)(t:Om):TG:=fun v σ H Q=>to σ H fun o H1=>ti σ H1 fun i H2=>t o i v H2 fun H3=>Q σ H3
theorem xR{o i:Expr}{to ti:TE}{t:Om}(ho:PE X o to)(hi:PE X i ti)(hs:Oo X t)
  (ha:‹∀v,assign (.Subscript o i pos) X.env v=(do
   let ov <- holding [v] (eval o X.env)
   let iv <- holding [v,ov] (eval i X.env)
   standAt pos
   holding [v,ov,iv] (setItem ov iv v)
   release [v,ov,iv] [])›):PG X (.Subscript o i pos) (GX to ti t):=by
 symm;intro v u Q I r h;rw[ha];refine aN (pJ (cz (ho ae s σ H _ I h) fun ov s1 qx=>?_));obtain⟨x,H1,I1,r1,q1⟩:=qx;refine aN (pJ (cz (hi ae s1 σ H1 _ I1 q1) fun iv s2 qx=>?_));obtain⟨y,H2,I2,r2,q2⟩:=qx;refine aN (Cm (aN (pJ (cz (hs ae s2 σ H2 x y v ov iv u _ I2 r1 r2 r q2) fun _ s3 qx=>?_))));obtain⟨H3,I3,q3⟩:=qx;exact wpAny_release ⟨σ,H3,I3,q3⟩
def qu(te:TE)(g:TG):TS:=fun D σ H=>te σ H fun x H1=>g x σ H1 D.nx
theorem dN{tg e:Expr}{te:TE}{g:TG}(he:PE X e te)(hg:PG X tg g)(hs: ~~~(swapsWithSole [tg] e pos.line X.env=pure false))(hw: ~~~(swappedStores [tg] e X.env=pure none))
  (h1: ~~~((assignEach [tg] X.env).map (·.2)=[assign tg X.env])):PS X (.Assign [tg] e pos) (qu te g):=by
 symm;intro D I h;refine wpAny_Assign_stores (cz (he ae s σ H _ I h) fun v s1 ⟨x,H1,I1,r1,q1⟩=>?_) hs hw;rw[h1];exact cz (hg ae s1 σ H1 x v _ I1 r1 q1) fun _ s2 q=>q
theorem aR{i:Nat}{x:Str}{e:Expr}{te:TE}{pos':Pos}(he:PE X e te)(hN: autoParam (X.N.Nodup) z_e._auto_1)(hi: ~~~(X.N[i]?=some x))(hx: autoParam (Loc X.env.scope x) z_f._auto_1)(hs: ~~~(swapsWith e (some (.Name x pos')) pos.line X.env=pure false))(hf: autoParam (X.fn x=true\/X.env.scope.names.lookup x=some .local) z_d._auto_1) :
  PS X (.Assign [.Name x pos'] e pos) (qu te (dh i)):=by
 symm;intro D I h;refine wpAny_Assign_Name (cz (he ae s σ H _ I h) fun v s1 ⟨y,H1,I1,r1,q1⟩=>?_) hs;exact g8 I1 hN hi hx r1 (fun s2 I2=>⟨_,H1,I2,q1⟩) hf
def Ey(i j:Nat)(ta:TA):TS:=fun D σ H=>ta σ H fun vs H1=>∃v w,vs=[v,w]/\D.nx ((σ.set i (some v)).set j (some w)) H1
theorem t_{i j:Nat}{x y:Str}{a b:Expr}{ta:TA}{px py pt:Pos}{kt k2 Xl}(hc:X.calm=true)(hN:X.N.Nodup)(hi:X.N[i]?=some x)(hj:X.N[j]?=some y)(hij:i≠j)
  (hx:X.env.scope.names.lookup x=some .local) (hy:X.env.scope.names.lookup y=some .local) (ha:PA X [a,b] ta)
  (hw:swappedStores [.Tuple [.Name x px,.Name y py] kt pt] (.Tuple [a,b] k2 Xl) X.env=pure (some [x,y]))
  (hs: ~~~(swapsWithSole [.Tuple [.Name x px,.Name y py] kt pt] (.Tuple [a,b] k2 Xl) pos.line X.env=pure false)) :
  PS X (.Assign [.Tuple [.Name x px,.Name y py] kt pt] (.Tuple [a,b] k2 Xl) pos) (Ey i j ta):=by
 symm;intro D I h;rw[exec_Assign_arm];refine aN (Cm ?_);rw[hs];refine aN (bV ?_);rw[aX ⋯]
 refine aN (Tuple_ (cz (ha _ ae s σ H _ I h) fun us s1 qx=>?_));obtain⟨vs,H1,I1,r1,q1⟩:=qx;obtain⟨v,w,e1,q1⟩:=q1;subst e1
 obtain⟨u1,u2,rfl,rv,yU⟩:∃u1 u2,us=[u1,u2]/\RelV v u1/\RelV w u2:=by
  cases r1 with
  | cons p q=>
   cases q with
   | cons p' q'=>
    cases q';exact⟨_,_,rfl,p,p'⟩
 refine xG ?_ (by show 2<=sizeLine; decide)
 have I2:Inv X ae σ H1 { s1 with heap:=s1.heap.push { cls:=.type "tuple",data:=.seq [u1,u2].toArray } }:=I1.kept (t':=s1.toks) fun b o e=>fB _ e
 rw[hw];refine aN (bV ?_);show wpAny (model X.prog X.w) X.A (do rule "assign.swapped-stores"; let items <- unpackItems (.ref s1.heap.objs.size) 2 none; assignInOrder [fun v=>bindName X.env y v,fun v=>bindName X.env x v] items.reverse; pure Flow.next) _ _ _
 refine aN (yW (aN (unpackItems_tuple (items:=#[u1,u2]) (I.ok.hd hc) (IsTup.new s1.heap _) fun h' hx'=>?_)));have I3:=I2.kept (h':=h') (t':=s1.toks) fun b o e=>hx' b o (dJ (bH e)) e;show wpAny _ _ (assignInOrder [fun v=>bindName X.env y v,fun v=>bindName X.env x v] [u2,u1] >>= fun _=>pure Flow.next) _ _ _;refine aN (assignInOrder_cons (F_ (g8 I3 hN hj (.inl hy) yU (fun s2 I4=>?_) (.inr hy))));refine assignInOrder_cons (F_ (g8 I4 hN hi (.inl hx) rv (fun s3 I5=>assignInOrder_nil (bV ?_)) (.inr hx)));rw[List.set_comm _ _ (Ne.symm hij)] at I5;exact⟨_,H1,I5,q1⟩
def Fe(i:Nat)(te:TE)(ti:Zx):TS:=fun D σ H=>∃x,σ[i]?=some (some x)/\te σ H fun y H1=>ti x y H1 fun z H2=>D.nx (σ.set i (some z)) H2
theorem Cz{i:Nat}{x:Str}{e:Expr}{te:TE}{op:Operator}{ti:Zx}{pos':Pos}(hN:X.N.Nodup)(hi:X.N[i]?=some x)(hx:Loc X.env.scope x)(he:PE X e te)(ho:PIp X op ti)(hf: autoParam (X.fn x=true\/X.env.scope.names.lookup x=some .local) z_d._auto_1) :
  PS X (.AugAssign (.Name x pos') op e pos) (Fe i te ti):=by
 symm;intro D I h;obtain⟨v,e1,h⟩:=h;obtain⟨m,hn,hl⟩:=I.loc;have vis:Vis X.env.scope x:=by rcases hx with k | k; exact .inl k; exact .inr (.inl k)
 obtain⟨u,r,l⟩:=hl i x v hi e1 vis;refine wpAny_AugAssign_Name ?_
 have go:wpAny (model X.prog X.w) X.A (eval e X.env) (fun w s₂=>wpAny (model X.prog X.w) X.A (inplaceOp op u w) (fun r s₃=>wpAny (model X.prog X.w) X.A (storeName X.env x r) (fun _=>SP X ae D .next) X.xe s₃) X.xe s₂) X.xe s:=by
  refine cz (he ae s σ H _ I h) fun w s1 qx=>?_;obtain⟨y,H1,I1,r1,q1⟩:=qx;refine cz (ho ae s1 σ H1 v y u w _ I1 r r1 q1) fun z s2 qx=>?_;obtain⟨zv,H2,I2,r2,q2⟩:=qx;exact g8 I2 hN hi hx r2 (fun s3 I3=>⟨_,H2,I3,q2⟩) hf
 rcases l with⟨hk,hm⟩ | ⟨hk,c,hc,hcell⟩
 ·exact wpAny_loadName_local I.ok.kind hk hn hm go
 ·rcases hk with hk | hk
  ·exact wpAny_loadName_cell I.ok.kind hk hc hcell go
  ·rcases hx with k | k
   ·have:X.env.scope.names.lookup x=some .free:=hk;rw[k] at this; cases this
   ·have:X.env.scope.names.lookup x=some .free:=hk;rw[k] at this; cases this
def uI(to ti te:TE)(Tr:V->V->Hp->VK->Prop)(tip:Zx)(Th:Om):TS:=fun D σ H=>to σ H fun o H1=>ti σ H1 fun i H2=>Tr o i H2 fun x H3=>te σ H3 fun y H4=>tip x y H4 fun z H5=>Th o i z H5 fun H6=>D.nx σ H6
def abI(X:Cx)(t:V->V->Hp->VK->Prop):Prop:=
 ∀(ae:List (Addr×Obj))(s:AB)(σ:St)(H:Hp)(o i:V)(ov iv:AA)(Q:VK),Inv X ae σ H s->RelV o ov->RelV i iv->t o i H Q ->
  wpAny (model X.prog X.w) X.A (getItem ov iv) (EP X ae σ Q) X.xe s
theorem T9{o i e:Expr}{to ti te:TE}{Tr:V->V->Hp->VK->Prop}{tip:Zx}{Th:Om}{op:Operator}{tpos:Pos}(ho:PE X o to)(hi:PE X i ti)(hg:abI X Tr)(he:PE X e te)(hp:PIp X op tip)(hs:Oo X Th)
  (ha:∀ov iv new,augStore i ov iv new=(do holding [new,ov,iv] (setItem ov iv new); release [new,ov,iv] []; pure .next):=by intros; rfl):PS X (.AugAssign (.Subscript o i tpos) op e pos) (uI to ti te Tr tip Th):=by
 symm;intro D I h;refine wpAny_AugAssign_SubscriptAny (cz (ho ae s σ H _ I h) fun ov s1 ⟨x1,H1,I1,r1,q1⟩=>?_) ha;refine cz (hi ae s1 σ H1 _ I1 q1) fun iv s2 qx=>?_;obtain⟨x2,H2,I2,r2,q2⟩:=qx;refine cz (hg ae s2 σ H2 x1 x2 ov iv _ I2 r1 r2 q2) fun old s3 qx=>?_;obtain⟨x3,H3,I3,r3,q3⟩:=qx;refine cz (he ae s3 σ H3 _ I3 q3) fun v s4 qx=>?_;obtain⟨x4,H4,I4,r4,q4⟩:=qx;refine cz (hp ae s4 σ H4 x3 x4 old v _ I4 r3 r4 q4) fun new s5 qx=>?_;obtain⟨x5,H5,I5,r5,q5⟩:=qx;exact cz (hs ae s5 σ H5 x1 x2 x5 ov iv new _ I5 r1 r2 r5 q5) fun _ s6 ⟨H6,I6,q6⟩=>⟨σ,H6,I6,q6⟩
def U6(f:Int->Int->Int):Zx:=fun x y H Q=>∃i j,x=.int i/\y=.int j/\Q (.int (f i j)) H
theorem Q7:PIp X .Add (U6 fun i j=>i+j):=by
 intro ae s σ H x y v u Q I r1 r2 h;obtain⟨i,j,e1,e2,q⟩:=h;subst e1; subst e2;obtain⟨t,rfl⟩:=r1;obtain⟨t',rfl⟩:=r2;exact iadd_int ⟨.int _,H,I.tok _,⟨_,rfl⟩,q⟩
theorem Jw:PIp X .Sub (U6 fun i j=>i-j):=by
 intro ae s σ H x y v u Q I r1 r2 h;obtain⟨i,j,e1,e2,q⟩:=h;subst e1; subst e2;obtain⟨t,rfl⟩:=r1;obtain⟨t',rfl⟩:=r2;exact isub_int ⟨.int _,H,I.tok _,⟨_,rfl⟩,q⟩
end
section
variable{X:Cx}{pos:Pos}
end
structure It where
 go:Nat->Hp->Prop
 Er:Nat->Hp->V->Hp->Prop
 stop:Nat->Hp->Prop
def fD(X:Cx)(ae:List (Addr×Obj))(H:Hp)(b:Addr):Prop:=
 H b=none/\b≠X.env.locals/\b∉X.fs/\(b∈X.ex\/X.s₀.heap.objs.size<=b)/\(∀x c,X.env.cells.lookup x=some c->c≠b)/\∀p∈X.pn++ae,p.1≠b
theorem Inv.uh{X:Cx}{ae:List (Addr×Obj)}{σ:St}{H H':Hp}{s:AB}{b:Addr}(I:Inv X ae σ H s)(hb:s.heap.objs.size<=b)(hn:H' b=none):fD X ae H' b:=by
 refine⟨hn,xu (pL I.lt hb),I.adQ hb,.inr (iH I.sz hb),fun x c e z=>?_,fun p hp z=>?_⟩
 ·obtain⟨v,q⟩:=I.cell x c e;exact absurd (pL q.lt (by rw[z]; exact hb)) (vf _)
 ·exact absurd (pL (bH (I.pin p hp).1) (by rw[z]; exact hb)) (vf _)
structure Turn(P:AC)(w:World)(K:Frag)(tg:Expr)(J:It)(fp:List Addr)(it:Addr)(tn:Nat->Heap->Prop):Prop where
 mem:it∈fp
 obj:∀i h,tn i h->∀b∈fp,∃o,h.get? b=some o/\∀v,o.data≠.cell v
 keep:∀i h h',tn i h->(∀b∈fp,∀o,h.get? b=some o->h'.get? b=some o)->tn i h'
 item:∀(X:Cx),X.prog=P->X.w=w->X.K=K->X.calm=true->∀(i:Nat)(ae:List (Addr×Obj))(s:AB)(σ:St)(H:Hp)(E:AA->AB->Prop),Inv X ae σ H s->(∀b∈fp,fD X ae H b)->tn i s.heap->J.go i H ->
  wpAny (model P w) X.A (pyNext (.ref it)) (fun r s1=>∃u,r=some u /\
   wpAny (model P w) X.A (letOwnedTupleGo tg (.ref it) u) (fun _ s2=>∃x H',Inv X ae σ H' s2/\RelV x u/\J.Er i H x H'/\tn (i+1) s2.heap/\∀b∈fp,H' b=none) E s1) E s
 done:∀(X:Cx),X.prog=P->X.w=w->X.K=K->X.calm=true->∀(i:Nat)(ae:List (Addr×Obj))(s:AB)(σ:St)(H:Hp)(E:AA->AB->Prop),Inv X ae σ H s->(∀b∈fp,fD X ae H b)->tn i s.heap->J.stop i H ->
  wpAny (model P w) X.A (pyNext (.ref it)) (fun r s1=>r=none/\Inv X ae σ H s1) E s
 self:∀(A:Around)(i:Nat)(s:AB)(Q:AA->AB->Prop)(E:AA->AB->Prop),tn i s.heap->Q (.ref it) s->wpAny (model P w) A (pyIter (.ref it)) Q E s
abbrev TI:=St->Hp->(It->Hp->Prop)->Prop
def PIE(X:Cx)(ae:List (Addr×Obj))(σ:St)(tg:Expr)(R:It->Hp->Prop)(itv:AA)(s2:AB):Prop:=
 ∃(it:Addr)(fp:List Addr)(tn:Nat->Heap->Prop)(J:It)(H':Hp),itv=.ref it/\Inv X ae σ H' s2/\Turn X.prog X.w X.K tg J fp it tn/\tn 0 s2.heap/\(∀b∈fp,fD X ae H' b)/\R J H'
structure PI(X:Cx)(tg iter:Expr)(wi:TI):Prop where
 mk ::
 go :
 ∀(ae:List (Addr×Obj))(s:AB)(σ:St)(H:Hp)(R:It->Hp->Prop),Inv X ae σ H s->wi σ H R ->
  wpAny (model X.prog X.w) X.A (eval iter X.env) (fun v s1=>wpAny (model X.prog X.w) X.A (pyIter v) (PIE X ae σ tg R) X.xe s1) X.xe s
instance {X:Cx} {tg iter:Expr} {wi:TI}:CoeFun (PI X tg iter wi) (fun _=>
 ∀(ae:List (Addr×Obj))(s:AB)(σ:St)(H:Hp)(R:It->Hp->Prop),Inv X ae σ H s->wi σ H R ->
  wpAny (model X.prog X.w) X.A (eval iter X.env) (fun v s1=>wpAny (model X.prog X.w) X.A (pyIter v) (PIE X ae σ tg R) X.xe s1) X.xe s):=⟨PI.go⟩
theorem Bf{M:Model}{A:Around}{E:AA->AB->Prop}{s:AB}{tg:Expr}{it:Addr}{u:AA}{o:Obj}{n:String}{vs:Array AA}{Q:Unit->AB->Prop}(ho:s.heap.get? it=some o)(hc:o.cls=.type n)(hd:o.data=.fields vs)
  (hn:["enumerate","zip","dict_itemiterator","dict_reverseitemiterator","odict_iterator","itertools.zip_longest","itertools.pairwise"].contains n=false) (hQ:Q () s):wpAny M A (letOwnedTupleGo tg (.ref it) u) Q E s:=by
 unfold letOwnedTupleGo;cases tg <;> first
  | exact bV hQ
  | (cases u <;> first
    | exact bV hQ
    | (refine aN (wpAny_load ho ?_)
       rw[hc,hd];show wpAny M A (if(["enumerate","zip","dict_itemiterator","dict_reverseitemiterator","odict_iterator","itertools.zip_longest","itertools.pairwise"].contains n&&vs[0]?==some (rawInt _))=true then _ else _) Q E s
       rw[aX (by intro h; rw[hn,Bool.false_and] at h; cases h)]
       exact bV hQ))
def Wy(K:Frag)(a:Addr):It:=
 ⟨fun i H=>∃xs x,bT K H a xs/\xs[i]?=some x,fun i H x H'=>H'=H/\∀xs,bT K H a xs->xs[i]?=some x,fun i H=>∃xs,bT K H a xs/\xs.length<=i⟩
def Wx(K:Frag)(a:Addr):It:=
 ⟨fun i H=>∃xs x,fK K H a xs/\xs[i]?=some x,fun i H x H'=>H'=H/\∀xs,fK K H a xs->xs[i]?=some x,fun i H=>∃xs,fK K H a xs/\xs.length<=i⟩
def OJ(lo:Int)(n:Nat):It:=⟨fun i _=>i<n,fun i H x H'=>H'=H/\x=.int (lo+i),fun i _=>n<=i⟩
theorem Mu{P:AC}{w:World}{K:Frag}{tg:Expr}(a it:Addr):Turn P w K tg (Wy K a) [it] it (fun i h=>h.IsListIter it a i) where
 mem:=by simp
 obj:=fun i h st b hb=>by
  have e:b=it:=by simpa using hb
  subst e;obtain⟨o,e,c,d⟩:=st;exact⟨o,e,fun v z=>by rw[d] at z; cases z⟩
 keep:=fun i h h' st k=>st.at fun o e=>k it (by simp) o e
 item:=by
  intro X hP hw hK hc i ae s σ H E I hf st hg;subst hP hw hK;obtain⟨xs,x,hq,hx⟩:=hg;obtain⟨its,rv,p,hz⟩:=I.list hq;obtain⟨u,hu,ru⟩:=rv.get hx;refine nZ (hf it (by simp)) fun f0 f1 f2 f3 f4 f5=>?_
  refine wpAny_pyNext_list_item st p.isList (x:=u) (by simpa using hu) fun h' st' sb=>?_
  have I1:Inv X ae σ H { s with heap:=h' }:=I.turned (t':=s.toks) (fun b o hb e=>(sb.2 b hb).trans e) f0 f1 f3 f4 f5
  obtain⟨o,e,c,d⟩:=id st';exact⟨u,rfl,Bf (s:={ s with heap:=h' }) e c d ⋯ ⟨x,H,I1,ru,⟨rfl,fun ys hy=>by rw[I.ym hy hq]; exact hx⟩,st',fun b hb=>(hf b hb).1⟩⟩
 done:=by
  intro X hP hw hK hc i ae s σ H E I hf st hg;subst hP hw hK;obtain⟨xs,hq,hx⟩:=hg;obtain⟨its,rv,p,hz⟩:=I.list hq;obtain⟨f0,f1,f2,f3,f4,f5⟩:=hf it (by simp)
  have hl:=rv.length;exact wpAny_pyNext_list_end (I.ok.hd hc) st p.isList (by simp; omega) fun h' eb=>⟨rfl,I.turned (t':=s.toks) (fun b o hb e=>eb b o hb e) f0 f1 f3 f4 f5⟩
 self:=fun _ _ _ _ _ st h=>wpAny_pyIter_listiter st h
theorem HS{P:AC}{w:World}{K:Frag}{tg:Expr}(a it:Addr):Turn P w K tg (Wx K a) [it] it (fun i h=>h.IsTupleIter it a i) where
 mem:=by simp
 obj:=fun i h st b hb=>by
  have e:b=it:=by simpa using hb
  subst e;obtain⟨o,e,c,d⟩:=st;exact⟨o,e,fun v z=>by rw[d] at z; cases z⟩
 keep:=fun i h h' st k=>st.at fun o e=>k it (by simp) o e
 item:=by
  intro X hP hw hK hc i ae s σ H E I hf st hg;subst hP hw hK;obtain⟨xs,x,hq,hx⟩:=hg;obtain⟨its,rv,p,hz⟩:=I.tuple hq;obtain⟨u,hu,ru⟩:=rv.get hx;refine nZ (hf it (by simp)) fun f0 f1 f2 f3 f4 f5=>?_
  refine wpAny_pyNext_tuple_item st (show s.heap.IsTuple a its.toArray from p) (x:=u) (by simpa using hu) fun h' st' sb=>?_
  have I1:Inv X ae σ H { s with heap:=h' }:=I.turned (t':=s.toks) (fun b o hb e=>(sb.2 b hb).trans e) f0 f1 f3 f4 f5
  obtain⟨o,e,c,d⟩:=id st';exact⟨u,rfl,Bf (s:={ s with heap:=h' }) e c d ⋯ ⟨x,H,I1,ru,⟨rfl,fun ys hy=>by rw[I.Mw hy hq]; exact hx⟩,st',fun b hb=>(hf b hb).1⟩⟩
 done:=by
  intro X hP hw hK hc i ae s σ H E I hf st hg;subst hP hw hK;obtain⟨xs,hq,hx⟩:=hg;obtain⟨its,rv,p,hz⟩:=I.tuple hq;obtain⟨f0,f1,f2,f3,f4,f5⟩:=hf it (by simp)
  have hl:=rv.length;exact wpAny_pyNext_tuple_end (I.ok.hd hc) st (show s.heap.IsTuple a its.toArray from p) (by simp; omega) fun h' eb=>⟨rfl,I.turned (t':=s.toks) (fun b o hb e=>eb b o hb e) f0 f1 f3 f4 f5⟩
 self:=fun _ _ _ _ _ st h=>wpAny_pyIter_tupleiter st h
theorem HW{P:AC}{w:World}{K:Frag}{tg:Expr}(it:Addr)(lo:Int)(n:Nat):Turn P w K tg (OJ lo n) [it] it (fun i h=>IsRangeIter h it (lo+(i:Nat)*1) ((n:Int)-(i:Nat)) 1) where
 mem:=by simp
 obj:=fun i h st b hb=>by
  have e:b=it:=by simpa using hb
  subst e
  exact⟨_,st,fun v z=>by
   have z':Data.fields _=Data.cell v:=z
   cases z'⟩
 keep:=fun i h h' st k=>k it (by simp) _ st
 item:=by
  intro X hP hw hK hc i ae s σ H E I hf st hg;subst hP hw hK;refine nZ (hf it (by simp)) fun f0 f1 f2 f3 f4 f5=>?_
  have W:=Walks.range (prog:=X.prog) (w:=X.w) (I.ok.hd hc) it lo 1 n;refine W.item i s _ _ hg st fun v h' tk hv st' kk=>?_;obtain⟨t,rfl⟩:=hv;have I1:Inv X ae σ H { s with heap:=h',toks:=tk }:=I.turned (fun b o hb e=>kk b o (by simpa using hb) e) f0 f1 f3 f4 f5
  refine⟨_,rfl,Bf (s:={ s with heap:=h',toks:=tk }) (n:="range_iterator") st' rfl rfl ⋯ ⟨.int (lo+i),H,I1,⟨t,?_⟩,⟨rfl,rfl⟩,st',fun b hb=>(hf b hb).1⟩⟩
  rw[Int.mul_one]
 done:=by
  intro X hP hw hK hc i ae s σ H E I hf st hg;subst hP hw hK;obtain⟨f0,f1,f2,f3,f4,f5⟩:=hf it (by simp)
  exact wpAny_pyNext_range_end (I.ok.hd hc) st (by have:n<=i:=hg; omega) fun h' eb=>⟨rfl,I.turned (t':=s.toks) (fun b o hb e=>eb b o hb e) f0 f1 f3 f4 f5⟩
 self:=fun _ _ _ _ _ st h=>Qs st h
section
variable{X:Cx}{tg:Expr}
def p_(K:Frag)(tl:TE):TI:=fun σ H R=>tl σ H fun x H1=>∃a,x=.ref a/\(∃xs,bT K H1 a xs)/\R (Wy K a) H1
def GQ(K:Frag)(tl:TE):TI:=fun σ H R=>tl σ H fun x H1=>∃a,x=.ref a/\(∃xs,fK K H1 a xs)/\R (Wx K a) H1
theorem cP{l:Expr}{tl:TE}(hl:PE X l tl):PI X tg l (p_ X.K tl):=by
 symm;intro R I h;refine cz (hl ae s σ H _ I h) fun v s1 qx=>?_;obtain⟨x,H1,I1,r1,q1⟩:=qx;obtain⟨a,e,⟨xs,hq⟩,q⟩:=q1;subst e;cases r1;obtain⟨its,rv,p,hz⟩:=I1.list hq;refine zf p.isList ?_;refine⟨s1.heap.objs.size,[s1.heap.objs.size],_,_,H1,rfl,I1.kept (t':=s1.toks) fun b o e=>fB _ e,Mu a _,⟨_,cO _ rfl,rfl,rfl⟩,fun b hb=>?_,q⟩;have e:b=s1.heap.objs.size:=by simpa using hb
 subst e;exact I1.uh (bw _) (I1.hok.fresh (bw _))
theorem Xq{l:Expr}{tl:TE}(hl:PE X l tl):PI X tg l (GQ X.K tl):=by
 symm;intro R I h;refine cz (hl ae s σ H _ I h) fun v s1 qx=>?_;obtain⟨x,H1,I1,r1,q1⟩:=qx;obtain⟨a,e,⟨xs,hq⟩,q⟩:=q1;subst e;cases r1;obtain⟨its,rv,p,hz⟩:=I1.tuple hq;refine wpAny_pyIter_tuple (show s1.heap.IsTuple a its.toArray from p) ?_;refine⟨s1.heap.objs.size,[s1.heap.objs.size],_,_,H1,rfl,I1.kept (t':=s1.toks) fun b o e=>fB _ e,HS a _,⟨_,cO _ rfl,rfl,rfl⟩,fun b hb=>?_,q⟩;have e:b=s1.heap.objs.size:=by simpa using hb
 subst e;exact I1.uh (bw _) (I1.hok.fresh (bw _))
theorem Qo{ae:List (Addr×Obj)}{σ:St}{H:Hp}{s:AB}{R:It->Hp->Prop}{E:AA->AB->Prop}{lo hi:Int}{t u v:Tok}{tk:Nat}(I:Inv X ae σ H s)(h1:-(2 ^ 62)<=lo)(h2:lo<2 ^ 62)(h3:-(2 ^ 62)<=hi)(h4:hi<2 ^ 62)
  (q:R (OJ lo (hi-lo).toNat) H):wpAny (model X.prog X.w) X.A (pyIter (.ref s.heap.objs.size)) (PIE X ae σ tg R) E { s with heap:=s.heap.push { cls:=.type "range",data:=.fields #[.int lo t,.int hi u,.int 1 v] },toks:=tk }:=by
 refine wpAny_pyIter_range (IsRange.new ..) (small_one h1 h2 h3 h4) ?_;have I1:Inv X ae σ H { s with heap:=s.heap.push { cls:=.type "range",data:=.fields #[.int lo t,.int hi u,.int 1 v] },toks:=tk }:=I.kept fun b o e=>fB _ e
 refine⟨(s.heap.push { cls:=.type "range",data:=.fields #[.int lo t,.int hi u,.int 1 v] }).objs.size,[(s.heap.push { cls:=.type "range",data:=.fields #[.int lo t,.int hi u,.int 1 v] }).objs.size],_,_,H,rfl,
  I1.kept (t':=tk) fun b o e=>fB _ e,HW _ lo (hi-lo).toNat,?_,fun b hb=>?_,q⟩
 ·have e1:lo+((0:Nat):Int)*1=lo:=by simp
  have e2:(((hi-lo).toNat:Nat):Int)-((0:Nat):Int)=Builtin.Range.rangeSize lo hi 1:=by rw[rangeSize_one]; split <;> omega
  show IsRangeIter _ _ (lo+((0:Nat):Int)*1) ((((hi-lo).toNat:Nat):Int)-((0:Nat):Int)) 1;rw[e1,e2];exact cO _ rfl
 ·have e:b=(s.heap.push { cls:=.type "range",data:=.fields #[.int lo t,.int hi u,.int 1 v] }).objs.size:=by simpa using hb
  subst e;exact I1.uh (bw _) (I1.hok.fresh (bw _))
def GR(ta:TA):TI:=fun σ H R=>ta σ H fun vs H1=>∃j:Int,vs=[.int j]/\-(2 ^ 62)<=j/\j<2 ^ 62/\R (OJ 0 j.toNat) H1
theorem eV{a:Expr}{ta:TA}{p pos:Pos}(hg:Gl X "range")(hm:X.mg "range" = none)(ha:PA X [a] ta)(hs: ~~~(starEach [a] X.env=[(false,eval a X.env)])):PI X tg (.Call (.Name "range" p) [a] [] pos) (GR ta):=by
 symm;intro R I h;refine Call_ (iw I hg hm boot_range (PyProof.Rows.callWith_type1 (cz (ha pos ae s σ H _ I h) fun us s1 ⟨vs,H1,I1,r1,q1⟩=>?_) hs rfl));obtain⟨j,e,q1,q2,q⟩:=q1;subst e;cases r1 with
 | cons r rr=>
  cases rr;obtain⟨t,rfl⟩:=r;exact call_range_1 (Qo I1 ∅ ∅ q1 q2 (by simpa using q))
def Ib(wi:TI)(g:TG)(tb:TS):TS:=fun D σ H=>wi σ H fun J H1=>∃W:Nat->Nat->St->Hp->Prop,(∃m,W 0 m σ H1)/\∀i m σ H,W i m σ H ->
 (J.stop i H/\D.nx σ H)\/(J.go i H/\∃N:St->Hp->Prop,(∀σ' H',N σ' H'->∃m',m'<m/\W (i+1) m' σ' H')/\∀x H',J.Er i H x H'->g x σ H' fun σ2 H2=>tb { D with nx:=N,ct:=N,bk:=D.nx } σ2 H2)
def CJ(fp:List Addr)(h:Heap):List (Addr×Obj):=fp.filterMap fun b=>(h.get? b).map fun o=>(b,o)
theorem cV{fp:List Addr}{h:Heap}{b:Addr}{o:Obj}(hb:b∈fp)(e:h.get? b=some o):(b,o)∈CJ fp h:=List.mem_filterMap.mpr ⟨b,hb,by rw[e]; rfl⟩
theorem Np{fp:List Addr}{h:Heap}{p:Addr×Obj}(hp:p∈CJ fp h):p.1∈fp/\h.get? p.1=some p.2:=by
 obtain⟨b,hb,e⟩:=List.mem_filterMap.mp hp;cases q:h.get? b with
 | none=>rw[q] at e; cases e
 | some o=>
  rw[q] at e;have e':(b,o)=p:=Option.some.inj e;subst e';exact⟨hb,q⟩
theorem Inv.pinned{ae:List (Addr×Obj)}{σ:St}{H:Hp}{s:AB}{fp:List Addr}(I:Inv X ae σ H s)(hf:∀b∈fp,fD X ae H b)(ho:∀b∈fp,∃o,s.heap.get? b=some o/\∀v,o.data≠.cell v):Inv X (ae++CJ fp s.heap) σ H s:=
 I.KD fun p hp=>(d_.mp hp).elim (fun z=>I.pin p (iI _ z)) fun z=>by
  obtain⟨hb,e⟩:=Np z;obtain⟨f0,f1,f2,_⟩:=hf p.1 hb;obtain⟨o,e',d⟩:=ho p.1 hb;rw[e] at e'; cases e';exact⟨e,f0,f1,f2,d⟩
theorem Inv.gZ{ae pl:List (Addr×Obj)}{σ:St}{H:Hp}{s:AB}(I:Inv X (ae++pl) σ H s):Inv X ae σ H s:=I.KD fun p hp=>I.pin p (iI _ (M3 _ hp))
theorem gO{iter:Expr}{body:List Stmt}{wi:TI}{g:TG}{tb:TS}{pos:Pos}(hp:PassesOwn (model X.prog X.w) X.A X.env X.xe)(hc:X.calm=true)(hi:PI X tg iter wi)(hg:PG X tg g)(hb:Ej X body tb)
  (hs:‹∀x,foldedSetIterable iter X.env x=pure x›):PS X (.For tg iter body [] pos) (Ib wi g tb):=by
 symm;intro D I h;refine wpAny_For (cz (hi ae s σ H _ I h) fun v s1 h1=>cz h1 fun itv s2 h2=>?_) hs;obtain⟨it,fp,tn,J,H2,e,I2,T,st2,f2,W,⟨m0,w0⟩,turn⟩:=h2;subst e;have stat:∀{H':Hp},(∀b∈fp,H' b=none)->∀b∈fp,fD X ae H' b:=fun hn b hb=>⟨hn b hb,(f2 b hb).2⟩;refine codeAny_forLoop_any (fun n s'=>∃i σ' H',Inv X ae σ' H' s'/\tn i s'.heap/\(∀b∈fp,H' b=none)/\W i n σ' H') ?_ m0 ⟨0,σ,H2,I2,st2,fun b hb=>(f2 b hb).1,w0⟩;intro n s3 wz; refine kJ wz fun i σ3 H3 I3 st3 fr3 w3=>?_; clear wz;rcases turn i n σ3 H3 w3 with⟨stop,qn⟩ | ⟨go,N,hN,step⟩
 ·refine Gf hp (cz (T.done X rfl rfl rfl hc i ae s3 σ3 H3 X.xe I3 (stat fr3) st3 stop) fun r s4 qx=>?_);obtain⟨hr,I4⟩:=qx;subst hr;exact wpAny_execs_nil ⟨σ3,H3,I4,qn⟩
 ·refine Gf hp (cz (T.item X rfl rfl rfl hc i ae s3 σ3 H3 X.xe I3 (stat fr3) st3 go) fun r s4 qx=>?_);obtain⟨u,hr,h4⟩:=qx;subst hr;refine Gf hp (cz h4 fun _ s5 qx=>?_);refine Gk qx fun x H5 I5 r5 y5 Tv Yl=>?_; clear qx;have I5':=I5.pinned (stat Yl) (T.obj _ _ Tv);refine Gf hp (cz (hg _ s5 σ3 H5 x u _ I5' r5 (step x H5 y5)) fun _ s6 qx=>?_);obtain⟨σ6,H6,I6,q6⟩:=qx;refine Gf hp (cz (hb _ s6 σ6 H6 _ I6 q6) fun f s7 q7=>?_)
  have again:∀{σ7:St} {H7:Hp},Inv X (ae++CJ fp s5.heap) σ7 H7 s7->N σ7 H7->∃m,m<n/\∃i σ' H',Inv X ae σ' H' s7/\tn i s7.heap/\(∀b∈fp,H' b=none)/\W i m σ' H':=fun {σ7 H7} I7 n7=>by
   obtain⟨m',hm,w7⟩:=hN σ7 H7 n7;refine⟨m',hm,i+1,σ7,H7,I7.gZ,T.keep _ _ _ Tv fun b hb o e=>(I7.pin (b,o) (iI _ (iI _ (cV hb e)))).1,fun b hb=>?_,w7⟩;obtain⟨o,e,d⟩:=T.obj _ _ Tv b hb;exact(I7.pin (b,o) (iI _ (iI _ (cV hb e)))).2.1
  cases f with
  | next=>obtain⟨σ7,H7,I7,n7⟩:=q7; exact again I7 n7
  | cont=>obtain⟨σ7,H7,I7,n7⟩:=q7; exact again I7 n7
  | brk=>obtain⟨σ7,H7,I7,q7⟩:=q7; exact⟨σ7,H7,I7.gZ,q7⟩
  | ret v=>obtain⟨x7,σ7,H7,I7,r7,q7⟩:=q7; exact⟨x7,σ7,H7,I7.gZ,r7,q7⟩
end
theorem Rp{K:Frag}{a:Addr}{xs:List V}{g:TG}{tb:TS}{D:Ends}{σ:St}{H:Hp}(Pv:Nat->St->Hp->Prop)(h0:Pv 0 σ H)(hl:∀i σ H,i<=xs.length->Pv i σ H->bT K H a xs)
  (hs:∀i x σ H,xs[i]?=some x->Pv i σ H->g x σ H fun σ2 H2=>tb { D with nx:=Pv (i+1),ct:=Pv (i+1),bk:=D.nx } σ2 H2) (hd:∀σ H,Pv xs.length σ H->D.nx σ H) :
  ∃W:Nat->Nat->St->Hp->Prop,(∃m,W 0 m σ H)/\∀i m σ H,W i m σ H ->
   ((Wy K a).stop i H/\D.nx σ H)\/((Wy K a).go i H/\∃N:St->Hp->Prop,(∀σ' H',N σ' H'->∃m',m'<m/\W (i+1) m' σ' H')/\∀x H',(Wy K a).Er i H x H'->g x σ H' fun σ2 H2=>tb { D with nx:=N,ct:=N,bk:=D.nx } σ2 H2):=by
 refine⟨fun i m σ H=>m=xs.length-i/\i<=xs.length/\Pv i σ H,⟨xs.length,by simp,gC _,h0⟩,?_⟩
 rintro i m σ H ⟨rfl,hi,p⟩;have q:=hl i σ H hi p;by_cases hlt:i<xs.length
 ·refine .inr ⟨⟨xs,xs[i],q,by simp[hlt]⟩,Pv (i+1),fun σ' H' p'=>⟨xs.length-(i+1),∅,rfl,hlt,p'⟩,fun x H' y=>?_⟩
  obtain⟨e,y⟩:=y;subst e;exact hs i x σ _ (y xs q) p
 ·have e:i=xs.length:=by omega
  subst e;exact .inl ⟨⟨xs,q,bw _⟩,hd σ H p⟩
theorem Vd{K:Frag}{a:Addr}{xs:List V}{g:TG}{tb:TS}{D:Ends}{σ:St}{H:Hp}(Pv:Nat->St->Hp->Prop)(h0:Pv 0 σ H)(hl:∀i σ H,i<=xs.length->Pv i σ H->fK K H a xs)
  (hs:∀i x σ H,xs[i]?=some x->Pv i σ H->g x σ H fun σ2 H2=>tb { D with nx:=Pv (i+1),ct:=Pv (i+1),bk:=D.nx } σ2 H2) (hd:∀σ H,Pv xs.length σ H->D.nx σ H) :
  ∃W:Nat->Nat->St->Hp->Prop,(∃m,W 0 m σ H)/\∀i m σ H,W i m σ H ->
   ((Wx K a).stop i H/\D.nx σ H)\/((Wx K a).go i H/\∃N:St->Hp->Prop,(∀σ' H',N σ' H'->∃m',m'<m/\W (i+1) m' σ' H')/\∀x H',(Wx K a).Er i H x H'->g x σ H' fun σ2 H2=>tb { D with nx:=N,ct:=N,bk:=D.nx } σ2 H2):=by
 refine⟨fun i m σ H=>m=xs.length-i/\i<=xs.length/\Pv i σ H,⟨xs.length,by simp,gC _,h0⟩,?_⟩
 rintro i m σ H ⟨rfl,hi,p⟩;have q:=hl i σ H hi p;by_cases hlt:i<xs.length
 ·refine .inr ⟨⟨xs,xs[i],q,by simp[hlt]⟩,Pv (i+1),fun σ' H' p'=>⟨xs.length-(i+1),∅,rfl,hlt,p'⟩,fun x H' y=>?_⟩
  obtain⟨e,y⟩:=y;subst e;exact hs i x σ _ (y xs q) p
 ·have e:i=xs.length:=by omega
  subst e;exact .inl ⟨⟨xs,q,bw _⟩,hd σ H p⟩
theorem N5{lo:Int}{n:Nat}{g:TG}{tb:TS}{D:Ends}{σ:St}{H:Hp}(Pv:Nat->St->Hp->Prop)(h0:Pv 0 σ H)
  (hs:∀i σ H,i<n->Pv i σ H->g (.int (lo+i)) σ H fun σ2 H2=>tb { D with nx:=Pv (i+1),ct:=Pv (i+1),bk:=D.nx } σ2 H2) (hd:∀σ H,Pv n σ H->D.nx σ H) :
  ∃W:Nat->Nat->St->Hp->Prop,(∃m,W 0 m σ H)/\∀i m σ H,W i m σ H ->
   ((OJ lo n).stop i H/\D.nx σ H)\/((OJ lo n).go i H/\∃N:St->Hp->Prop,(∀σ' H',N σ' H'->∃m',m'<m/\W (i+1) m' σ' H')/\∀x H',(OJ lo n).Er i H x H'->g x σ H' fun σ2 H2=>tb { D with nx:=N,ct:=N,bk:=D.nx } σ2 H2):=by
 refine⟨fun i m σ H=>m=n-i/\i<=n/\Pv i σ H,⟨n,by simp,gC _,h0⟩,?_⟩
 rintro i m σ H ⟨rfl,hi,p⟩;by_cases hlt:i<n
 ·refine .inr ⟨hlt,Pv (i+1),fun σ' H' p'=>⟨n-(i+1),∅,rfl,hlt,p'⟩,fun x H' y=>?_⟩
  obtain⟨e,y⟩:=y;subst e y;exact hs i σ _ hlt p
 ·have e:i=n:=by omega
  subst e;exact .inl ⟨bw _,hd σ H p⟩
abbrev R2:=V->V->Hp->VK->Prop
structure m7(X:Cx)(f:AA->AA->Sem AA)(r:R2):Prop where
 mk ::
 go :
 ∀(ae:List (Addr×Obj))(s:AB)(σ:St)(H:Hp)(x y:V)(v u:AA)(Q:VK),Inv X ae σ H s->RelV x v->RelV y u->r x y H Q ->
  wpAny (model X.prog X.w) X.A (f v u) (EP X ae σ Q) X.xe s
instance {X:Cx} {f:AA->AA->Sem AA} {r:R2}:CoeFun (m7 X f r) (fun _=>
 ∀(ae:List (Addr×Obj))(s:AB)(σ:St)(H:Hp)(x y:V)(v u:AA)(Q:VK),Inv X ae σ H s->RelV x v->RelV y u->r x y H Q ->
  wpAny (model X.prog X.w) X.A (f v u) (EP X ae σ Q) X.xe s):=⟨m7.go⟩
structure UnR(X:Cx)(f:AA->Sem AA)(r:V->Hp->VK->Prop):Prop where
 mk ::
 go :
 ∀(ae:List (Addr×Obj))(s:AB)(σ:St)(H:Hp)(x:V)(v:AA)(Q:VK),Inv X ae σ H s->RelV x v->r x H Q ->
  wpAny (model X.prog X.w) X.A (f v) (EP X ae σ Q) X.xe s
instance {X:Cx} {f:AA->Sem AA} {r:V->Hp->VK->Prop}:CoeFun (UnR X f r) (fun _=>
 ∀(ae:List (Addr×Obj))(s:AB)(σ:St)(H:Hp)(x:V)(v:AA)(Q:VK),Inv X ae σ H s->RelV x v->r x H Q ->
  wpAny (model X.prog X.w) X.A (f v) (EP X ae σ Q) X.xe s):=⟨UnR.go⟩
structure dG(X:Cx)(f:AA)(r:List V->Hp->VK->Prop):Prop where
 mk ::
 go :
 ∀(ae:List (Addr×Obj))(s:AB)(σ:St)(H:Hp)(xs:List V)(us:List AA)(Q:VK),Inv X ae σ H s->Vals xs us->r xs H Q ->
  wpAny (model X.prog X.w) X.A (call f us) (EP X ae σ Q) X.xe s
instance {X:Cx} {f:AA} {r:List V->Hp->VK->Prop}:CoeFun (dG X f r) (fun _=>
 ∀(ae:List (Addr×Obj))(s:AB)(σ:St)(H:Hp)(xs:List V)(us:List AA)(Q:VK),Inv X ae σ H s->Vals xs us->r xs H Q ->
  wpAny (model X.prog X.w) X.A (call f us) (EP X ae σ Q) X.xe s):=⟨dG.go⟩
def Ia(r:R2)(ta tb:TE):TE:=fun σ H Q=>ta σ H fun x H1=>tb σ H1 fun y H2=>r x y H2 Q
def VG(r:V->Hp->VK->Prop)(ta:TE):TE:=fun σ H Q=>ta σ H fun x H1=>r x H1 Q
def rI(C:Int->Int->Prop)(g:Int->Int->V):R2:=fun x y H Q=>∃i j,x=.int i/\y=.int j/\C i j/\Q (g i j) H
def IK(g:Int->Int->V):R2:=fun x y H Q=>∃i j,x=.int i/\y=.int j/\Q (g i j) H
def rU(g:Int->V):V->Hp->VK->Prop:=fun x H Q=>∃i,x=.int i/\Q (g i) H
section
variable{X:Cx}{a b c:Expr}{ta tb tc:TE}{pos:Pos}
theorem Yz(ha:PE X a ta)(hb:PE X b tb){ae:List (Addr×Obj)}{s:AB}{σ:St}{H:Hp}{R:V->V->Hp->Prop}(I:Inv X ae σ H s)
  (h:ta σ H fun x H1=>tb σ H1 fun y H2=>R x y H2) {Q:AA->AB->Prop} {f:AA->AA->Sem AA}
  (hf:∀v u s2 x y H2,Inv X ae σ H2 s2->RelV x v->RelV y u->R x y H2->wpAny (model X.prog X.w) X.A (f v u) Q X.xe s2) :
  wpAny (model X.prog X.w) X.A (eval a X.env) (fun v s₁=>wpAny (model X.prog X.w) X.A (eval b X.env) (fun u s₂=>wpAny (model X.prog X.w) X.A (f v u) Q X.xe s₂) X.xe s₁) X.xe s:=by
 refine cz (ha ae s σ H _ I h) fun v s1 qx=>?_;obtain⟨x,H1,I1,r1,q1⟩:=qx;refine cz (hb ae s1 σ H1 _ I1 q1) fun u s2 qx=>?_;obtain⟨y,H2,I2,r2,q2⟩:=qx;exact hf v u s2 x y H2 I2 r1 r2 q2
theorem aL{op:Operator}{r:R2}(ho:m7 X (binaryOp op) r)(ha:PE X a ta)(hb:PE X b tb):PE X (.BinOp a op b pos) (Ia r ta tb):=by
 symm;intro Q I h;exact wpAny_BinOp (Yz ha hb I h fun v u s2 x y H2 I2 rx ry q=>ho ae s2 σ H2 x y v u Q I2 rx ry q)
theorem QG{op:UnaryOp}{r:V->Hp->VK->Prop}(ho:UnR X (unaryOp op) r)(ha:PE X a ta):PE X (.UnaryOp op a pos) (VG r ta):=by
 symm;intro Q I h;exact UnaryOp_ (cz (ha ae s σ H _ I h) fun v s1 ⟨x,H1,I1,r1,q1⟩=>ho ae s1 σ H1 x v Q I1 r1 q1)
theorem opI{f:AA->AA->Sem AA}{C:Int->Int->Prop}{g:Int->Int->Int}
  (rule:∀(i j:Int)(t u:Tok)(s:AB)(Q:AA->AB->Prop)(E:AA->AB->Prop),C i j->Q (.int (g i j) s.toks) { s with toks:=s.toks+1 }->wpAny (model X.prog X.w) X.A (f (.int i t) (.int j u)) Q E s) :
  m7 X f (rI C fun i j=>.int (g i j)):=by
 symm;intro x y v u Q I rx ry h;obtain⟨i,j,rfl,rfl,hc,q⟩:=h;obtain⟨t,rfl⟩:=rx;obtain⟨t',rfl⟩:=ry;exact rule i j t t' s _ _ hc ⟨.int (g i j),H,I.tok _,⟨_,rfl⟩,q⟩
theorem aaL{f:AA->AA->Sem AA}{g:Int->Int->Int}
  (rule:∀(i j:Int)(t u:Tok)(s:AB)(Q:AA->AB->Prop)(E:AA->AB->Prop),Q (.int (g i j) s.toks) { s with toks:=s.toks+1 }->wpAny (model X.prog X.w) X.A (f (.int i t) (.int j u)) Q E s) :
  m7 X f (IK fun i j=>.int (g i j)):=by
 symm;intro x y v u Q I rx ry h;obtain⟨i,j,rfl,rfl,q⟩:=h;obtain⟨t,rfl⟩:=rx;obtain⟨t',rfl⟩:=ry;exact rule i j t t' s _ _ ⟨.int (g i j),H,I.tok _,⟨_,rfl⟩,q⟩
theorem Um{f:AA->AA->Sem AA}{g:Int->Int->Bool}
  (rule:∀(i j:Int)(t u:Tok)(s:AB)(Q:AA->AB->Prop)(E:AA->AB->Prop),Q (.bool (g i j)) s->wpAny (model X.prog X.w) X.A (f (.int i t) (.int j u)) Q E s) :
  m7 X f (IK fun i j=>.bl (g i j)):=by
 symm;intro x y v u Q I rx ry h;obtain⟨i,j,rfl,rfl,q⟩:=h;obtain⟨t,rfl⟩:=rx;obtain⟨t',rfl⟩:=ry;exact rule i j t t' s _ _ ⟨.bl (g i j),H,I,rfl,q⟩
def afi(i j:Int):Prop:=0<j/\j<1073741824
def afh(i j:Int):Prop:=0<=j/\j<=1000000/\i.natAbs<2 ^ 64
def R9(i j:Int):Prop:=(-(2 ^ 64)<i/\i<2 ^ 64)\/(-(2 ^ 64)<j/\j<2 ^ 64)
theorem R9.ok{i j:Int}(h:R9 i j):IntMulOk i j:=by
 rcases h with⟨h1,h2⟩ | ⟨h1,h2⟩
 ·exact .of_left (intBits_le_64 h1 h2)
 ·exact .of_right (intBits_le_64 h1 h2)
theorem bu:m7 X (binaryOp .Add) (IK fun i j=>.int (i+j)):=aaL fun _ _ _ _ _ _ _ q=>add_int q
theorem gk:m7 X (binaryOp .Sub) (IK fun i j=>.int (i-j)):=aaL fun _ _ _ _ _ _ _ q=>sub_int q
theorem jg:m7 X (binaryOp .Mult) (rI R9 fun i j=>.int (i*j)):=opI fun _ _ _ _ _ _ _ hc q=>mul_int q hc.ok
theorem KN:m7 X (binaryOp .FloorDiv) (rI afi fun i j=>.int (i / j)):=opI fun i j _ _ _ _ _ hc q=>by
 have h1:(0:Int)<j:=hc.1;have h2:j<1073741824:=hc.2;exact floordiv_int ∅ (by rw[Int.fdiv_eq_ediv_of_nonneg i ∅]; exact q) (.inl (PyProof.noPylong_small ∅))
theorem jX:m7 X (binaryOp .Mod) (rI (fun _ j=>0<j) fun i j=>.int (i % j)):=opI fun i j _ _ _ _ _ hc q=>by
 have h1:(0:Int)<j:=hc;exact mod_int' ∅ (by rw[Int.fmod_eq_emod_of_nonneg i ∅]; exact q)
theorem qG:m7 X (binaryOp .Pow) (rI afh fun i j=>.int (i ^ j.toNat)):=opI fun _ _ _ _ _ _ _ hc q=>pow_int_small hc.1 hc.2.1 hc.2.2 q
theorem unI{f:AA->Sem AA}{g:Int->Int}
  (rule:∀(i:Int)(t:Tok)(s:AB)(Q:AA->AB->Prop)(E:AA->AB->Prop),Q (.int (g i) s.toks) { s with toks:=s.toks+1 }->wpAny (model X.prog X.w) X.A (f (.int i t)) Q E s) :
  UnR X f (rU fun i=>.int (g i)):=by
 symm;intro x v Q I rx h;obtain⟨i,rfl,q⟩:=h;obtain⟨t,rfl⟩:=rx;exact rule i t s _ _ ⟨.int (g i),H,I.tok _,⟨_,rfl⟩,q⟩
theorem HR:UnR X (unaryOp .USub) (rU fun i=>.int (-i)):=unI fun _ _ _ _ _ q=>neg_int q
end
def MN:V->V->Bool
 | .non,.non=>true | .non,.int _=>true | .int _,.non=>true | .non,.bl _=>true | .bl _,.non=>true | .non,.str _=>true | .str _,.non=>true
 | .int _,.int _=>true | .bl _,.bl _=>true | .str _,.str _=>true | .Oi _,.Oi _=>true
 | .int _,.str _=>true | .str _,.int _=>true | .bl _,.str _=>true | .str _,.bl _=>true
 | _,_=>false
def Xi:R2:=fun x y H Q=>MN x y=true/\Q (.bl (decide (x=y))) H
def rNe:R2:=fun x y H Q=>MN x y=true/\Q (.bl (!decide (x=y))) H
theorem Lk{i j:Int}:decide (V.int i=V.int j)=(i==j):=by
 rw[Ga];simp
theorem Rz{i j:Bool}:decide (V.bl i=V.bl j)=(i==j):=by
 rw[Ga];simp
theorem Lj{i j:Str}:decide (V.str i=V.str j)=(i==j):=by
 rw[Ga];simp
theorem Ln{i j:Array UInt8}:decide (V.Oi i=V.Oi j)=(i.toList==j.toList):=by
 rw[Ga];cases i;cases j;simp
section
variable{X:Cx}{a b c:Expr}{ta tb tc:TE}{pos:Pos}
theorem bJ{ae:List (Addr×Obj)}{σ:St}{H:Hp}{s:AB}{Q:VK}{k k':Bool}(I:Inv X ae σ H s)(q:Q (.bl k) H)(e:k=k'):EP X ae σ Q (.bool k') s:=by
 subst e;exact⟨.bl k,H,I,rfl,q⟩
theorem jh:m7 X (compareOp .Eq) Xi:=by
 symm;intro x y v u Q I rx ry h;obtain⟨hs,q⟩:=h;cases x with
 | non=>
  cases rx;cases y with
  | non=>cases ry; exact PySem.EqNone.eq_none_none (bJ I q (by simp))
  | bl j=>cases ry; exact PySem.EqNone.eq_none_bool (bJ I q (by simp))
  | int j=>obtain⟨t',rfl⟩:=ry; exact PySem.EqNone.eq_none_int (bJ I q (by simp))
  | str j=>obtain⟨t',rfl⟩:=ry; exact PySem.EqNone.eq_none_str (bJ I q (by simp))
  | _=>exact absurd (show false=true from hs) ju
 | bl i=>
  cases rx;cases y with
  | non=>cases ry; exact PySem.EqNone.eq_bool_none (bJ I q (by simp))
  | bl j=>cases ry; exact eq_bool (bJ I q Rz)
  | str j=>obtain⟨t',rfl⟩:=ry; exact PySem.EqMixed.eq_bool_str (bJ I q (by simp))
  | _=>exact absurd (show false=true from hs) ju
 | int i=>
  obtain⟨t,rfl⟩:=rx;cases y with
  | non=>cases ry; exact PySem.EqNone.eq_int_none (bJ I q (by simp))
  | int j=>obtain⟨t',rfl⟩:=ry; exact eq_int (bJ I q Lk)
  | str j=>obtain⟨t',rfl⟩:=ry; exact PySem.EqMixed.eq_int_str (bJ I q (by simp))
  | _=>exact absurd (show false=true from hs) ju
 | str i=>
  obtain⟨t,rfl⟩:=rx;cases y with
  | non=>cases ry; exact PySem.EqNone.eq_str_none (bJ I q (by simp))
  | bl j=>cases ry; exact PySem.EqMixed.eq_str_bool (bJ I q (by simp))
  | int j=>obtain⟨t',rfl⟩:=ry; exact PySem.EqMixed.eq_str_int (bJ I q (by simp))
  | str j=>obtain⟨t',rfl⟩:=ry; exact eq_str (bJ I q Lj)
  | _=>exact absurd (show false=true from hs) ju
 | Oi i=>
  obtain⟨t,rfl⟩:=rx;cases y with
  | Oi j=>obtain⟨t',rfl⟩:=ry; exact PySem.W.eq_bytes (bJ I q Ln)
  | _=>exact absurd (show false=true from hs) ju
 | _=>cases y <;> exact absurd (show false=true from hs) ju
theorem Az:m7 X (compareOp .NotEq) rNe:=by
 symm;intro x y v u Q I rx ry h;obtain⟨hs,q⟩:=h;cases x with
 | non=>
  cases rx;cases y with
  | non=>cases ry; exact PySem.EqNone.ne_none_none (bJ I q (by simp))
  | bl j=>cases ry; exact PySem.EqNone.ne_none_bool (bJ I q (by simp))
  | int j=>obtain⟨t',rfl⟩:=ry; exact PySem.EqNone.ne_none_int (bJ I q (by simp))
  | str j=>obtain⟨t',rfl⟩:=ry; exact PySem.EqNone.ne_none_str (bJ I q (by simp))
  | _=>exact absurd (show false=true from hs) ju
 | bl i=>
  cases rx;cases y with
  | non=>cases ry; exact PySem.EqNone.ne_bool_none (bJ I q (by simp))
  | bl j=>cases ry; exact ne_bool (bJ I q (pI not Rz))
  | str j=>obtain⟨t',rfl⟩:=ry; exact PySem.EqMixed.ne_bool_str (bJ I q (by simp))
  | _=>exact absurd (show false=true from hs) ju
 | int i=>
  obtain⟨t,rfl⟩:=rx;cases y with
  | non=>cases ry; exact PySem.EqNone.ne_int_none (bJ I q (by simp))
  | int j=>obtain⟨t',rfl⟩:=ry; exact ne_int (bJ I q (pI not Lk))
  | str j=>obtain⟨t',rfl⟩:=ry; exact PySem.EqMixed.ne_int_str (bJ I q (by simp))
  | _=>exact absurd (show false=true from hs) ju
 | str i=>
  obtain⟨t,rfl⟩:=rx;cases y with
  | non=>cases ry; exact PySem.EqNone.ne_str_none (bJ I q (by simp))
  | bl j=>cases ry; exact PySem.EqMixed.ne_str_bool (bJ I q (by simp))
  | int j=>obtain⟨t',rfl⟩:=ry; exact PySem.EqMixed.ne_str_int (bJ I q (by simp))
  | str j=>obtain⟨t',rfl⟩:=ry; exact ne_str (bJ I q (pI not Lj))
  | _=>exact absurd (show false=true from hs) ju
 | Oi i=>
  obtain⟨t,rfl⟩:=rx;cases y with
  | Oi j=>obtain⟨t',rfl⟩:=ry; exact PySem.W.ne_bytes (bJ I q (pI not Ln))
  | _=>exact absurd (show false=true from hs) ju
 | _=>cases y <;> exact absurd (show false=true from hs) ju
theorem uQ:m7 X (compareOp .Lt) (IK fun i j=>.bl (decide (i<j))):=Um fun _ _ _ _ _ _ _ q=>lt_int q
theorem xV:m7 X (compareOp .LtE) (IK fun i j=>.bl (decide (i<=j))):=Um fun _ _ _ _ _ _ _ q=>le_int q
theorem Gv:m7 X (compareOp .Gt) (IK fun i j=>.bl (decide (j<i))):=Um fun _ _ _ _ _ _ _ q=>gt_int q
theorem aaK:m7 X (compareOp .GtE) (IK fun i j=>.bl (decide (j<=i))):=Um fun _ _ _ _ _ _ _ q=>ge_int q
theorem M_:m7 X (compareOp .In) (fun x y H Q=>∃i j,x=.str i/\y=.str j/\Q (.bl (!(Builtin.Str.occurrences j i 0 j.length 1).isEmpty)) H):=by
 symm;intro x y v u Q I rx ry h;obtain⟨i,j,rfl,rfl,q⟩:=h;obtain⟨t,rfl⟩:=rx;obtain⟨t',rfl⟩:=ry;exact in_str (bJ I q rfl)
theorem Xz:m7 X (compareOp .Is) (fun x y H Q=>y=.non/\Q (.bl (decide (x=.non))) H):=by
 symm;intro x y v u Q I rx ry h;obtain⟨rfl,q⟩:=h;cases ry;refine is_none_gen (bJ I q ?_);cases x <;> first
  | (cases rx; rfl)
  | (obtain⟨t,rfl⟩:=rx; rfl)
theorem vW:m7 X (compareOp .IsNot) (fun x y H Q=>y=.non/\Q (.bl (!decide (x=.non))) H):=by
 symm;intro x y v u Q I rx ry h;obtain⟨rfl,q⟩:=h;cases ry;refine isnot_none_gen (bJ I q ?_);cases x <;> first
  | (cases rx; rfl)
  | (obtain⟨t,rfl⟩:=rx; rfl)
theorem bc(b:Expr){op:CmpOp}(h:(op≠.In)⁻¹)(h2:(op≠.NotIn)⁻¹):behindInMarks op b=false:=by
 have e1:(op==CmpOp.In)=false:=by cases op <;> first | rfl | exact absurd rfl h
 have e2:(op==CmpOp.NotIn)=false:=by cases op <;> first | rfl | exact absurd rfl h2
 cases b <;> simp[behindInMarks,e1,e2]
theorem eX{op:CmpOp}{r:R2}(ho:m7 X (compareOp op) r)(ha:PE X a ta)(hb:PE X b tb)(hm:behindInMarks op b=false):PE X (.Compare a [op] [b] pos) (Ia r ta tb):=by
 symm;intro Q I h;exact wpAny_Compare1 (Yz ha hb I h fun v u s2 x y H2 I2 rx ry q=>ho ae s2 σ H2 x y v u Q I2 rx ry q) hm
def q_(t:TE):TT:=fun σ H Q=>t σ H fun x H'=>∃k,x=.bl k/\Q k H'
theorem bf{op:CmpOp}{r:R2}(ho:m7 X (compareOp op) r)(ha:PE X a ta)(hb:PE X b tb)(hm:behindInMarks op b=false):PT X (.Compare a [op] [b] pos) (q_ (Ia r ta tb)):=by
 symm;intro Q I h
 refine wpAny_isTrue_Compare1 (cz (ha ae s σ H _ I h) fun v s1 ⟨x,H1,I1,r1,q1⟩=>cz (hb ae s1 σ H1 _ I1 q1) fun u s2 ⟨y,H2,I2,r2,q2⟩=>
  cz (ho ae s2 σ H2 x y v u _ I2 r1 r2 q2) fun c s3 ⟨z,H3,I3,r3,k,e,q3⟩=>?_) hm
 subst e;cases r3;exact IW ⟨H3,I3,q3⟩
def nj(r r':R2)(ta tb tc:TE):TE:=fun σ H Q=>ta σ H fun x H1=>tb σ H1 fun y H2=>r x y H2 fun z H3=>∃k,z=.bl k /\
 (if k=true then tc σ H3 fun w' H4=>r' y w' H4 Q else Q (.bl false) H3)
theorem Gn{op op':CmpOp}{r r':R2}(ho:m7 X (compareOp op) r)(ho':m7 X (compareOp op') r')(ha:PE X a ta)(hb:PE X b tb)(hc:PE X c tc)
  (hm:lastMarks [op,op'] [b,c]=false:=by with_unfolding_all rfl):PT X (.Compare a [op,op'] [b,c] pos) (q_ (nj r r' ta tb tc)):=by
 symm;intro Q I h
 refine isTrue_chain (cz (ha ae s σ H _ I h) fun v s1 ⟨x,H1,I1,r1,q1⟩=>test_link (cz (hb ae s1 σ H1 _ I1 q1) fun u s2 ⟨y,H2,I2,r2,q2⟩=>
  cz (ho ae s2 σ H2 x y v u _ I2 r1 r2 q2) fun d s3 ⟨z,H3,I3,r3,k,e,q3⟩=>?_)) hm
 subst e;cases r3;refine IW ?_;cases k with
 | false=>
  obtain⟨k',e',q'⟩:=q3;cases e';exact ite_ff ⟨H3,I3,q'⟩
 | true=>
  refine ite_tt (test_last (cz (hc ae s3 σ H3 _ I3 q3) fun w' s4 ⟨z',H4,I4,r4,q4⟩=>cz (ho' ae s4 σ H4 y z' u w' _ I4 r2 r4 q4) fun d' s5 qx=>?_));obtain⟨z2,H5,I5,r5,k2,e2,q5⟩:=qx;subst e2;cases r5;exact IW ⟨H5,I5,q5⟩
def ae0(K:Frag)(x:V)(H:Hp)(k:Bool):Prop:=
 match x with
 | .non=>k=false
 | .bl b=>k=b
 | .int i=>k=(i != 0)
 | .str y=>y.length<=sizeLine/\k=((y.length:Int) != 0)
 | .Oi y=>y.size<=sizeLine/\k=((y.size:Int) != 0)
 | .ref p=>(∃xs,bT K H p xs/\k = !xs.isEmpty)\/(∃xs,fK K H p xs/\k = !xs.isEmpty)\/∃kvs,H p=some (.dK kvs)/\k = !kvs.isEmpty
 | _=>False
theorem qK:(sizeLine:Nat)<2 ^ 63:=by rw[sizeLine_eq]; decide
theorem qH:m7 X (binaryOp .Add) (fun x y H Q=>∃i j,x=.str i/\y=.str j/\i.length+j.length<=sizeLine/\Q (.str (i++j)) H):=by
 symm;intro x y v u Q I rx ry h;obtain⟨i,j,rfl,rfl,hz,q⟩:=h;obtain⟨t,rfl⟩:=rx;obtain⟨t',rfl⟩:=ry;exact add_str (fun t' tk=>⟨.str (i++j),H,I.tok _,⟨_,rfl⟩,q⟩) hz
theorem vals1{x:V}{us:List AA}(r:Vals [x] us):∃u,us=[u]/\RelV x u:=by
 cases r with
 | cons r1 r2=>cases r2; exact⟨_,rfl,r1⟩
theorem vals2{x y:V}{us:List AA}(r:Vals [x,y] us):∃u w',us=[u,w']/\RelV x u/\RelV y w':=by
 cases r with
 | cons r1 r2=>
  cases r2 with
  | cons r3 r4=>cases r4; exact⟨_,_,rfl,r1,r3⟩
theorem Hh:dG X (.builtin "abs") (fun xs H Q=>∃i,xs=[.int i]/\Q (.int (if i<0 then -i else i)) H):=by
 symm;intro xs us Q I r h;obtain⟨i,rfl,q⟩:=h;obtain⟨u,rfl,t,rfl⟩:=vals1 r;exact call_abs_int fun u tk=>⟨.int (if i<0 then -i else i),H,I.tok _,⟨_,rfl⟩,q⟩
theorem gQ(hc:X.calm=true):dG X (.builtin "max") (fun xs H Q=>∃i j,xs=[.int i,.int j]/\Q (.int (if j>i then j else i)) H):=by
 symm;intro xs us Q I r h;obtain⟨i,j,rfl,q⟩:=h;obtain⟨u,w',rfl,⟨t,rfl⟩,⟨t',rfl⟩⟩:=vals2 r;refine max_two_ints (I.ok.hd hc) fun h' tk k=>⟨_,H,I.kept k,?_,q⟩;by_cases hj:j>i
 ·rw[bh hj,bh hj]; exact⟨_,rfl⟩
 ·rw[aX hj,aX hj]; exact⟨_,rfl⟩
theorem cZ(hc:X.calm=true):dG X (.builtin "min") (fun xs H Q=>∃i j,xs=[.int i,.int j]/\Q (.int (if j<i then j else i)) H):=by
 symm;intro xs us Q I r h;obtain⟨i,j,rfl,q⟩:=h;obtain⟨u,w',rfl,⟨t,rfl⟩,⟨t',rfl⟩⟩:=vals2 r;refine min_two_ints (I.ok.hd hc) fun h' tk k=>⟨_,H,I.kept k,?_,q⟩;by_cases hj:j<i
 ·rw[bh hj,bh hj]; exact⟨_,rfl⟩
 ·rw[aX hj,aX hj]; exact⟨_,rfl⟩
end
structure JW(h:Heap)(x dx C:Addr)(mA:Str->Option AA):Prop where
 obj:h.get? x=some (instObj C dx)
 ns:h.Ns1 dx mA
 ne:dx≠x
theorem Nx{h:Heap}{dx:Addr}{mA:Str->Option AA}(n:h.Ns1 dx mA):∃od,h.get? dx=some od/\∀name,lookIn name od=some (mA name):=by
 obtain⟨o,es,ep,ho,hd,hk,_,hm⟩:=n;refine⟨o,ho,fun name=>?_⟩;have e:=hm name;unfold nsFind findBy at e;rw[<- Array.find?_toList] at e;unfold lookIn;rw[hd];dsimp only;split
 ·rename_i y q;rw[q] at e;exact pI some e
 ·rename_i q;rw[q] at e
  have a:es.toList.any (·.refKey)=false:=by
   rw[List.any_eq_false];intro y hy;obtain⟨z,t,hkey⟩:=hk y (Array.mem_toList_iff.mp hy);simp[DictEntry.refKey,hkey]
  have a':¬es.toList.any (·.refKey)=true:=by rw[a]; exact ju
  rw[aX a'];exact pI some e
theorem JW.look{h:Heap}{x dx C:Addr}{mA:Str->Option AA}(I:JW h x dx C mA):∃od,PySem.W.InstAt h x (instObj C dx) C (some od)/\∀name,lookIn name od=some (mA name):=
 let ⟨od,ho,hl⟩:=Nx I.ns
 ⟨od,⟨I.obj,rfl,rfl,ho⟩,hl⟩
section
variable{prog:AC}{w:World}{A:Around}{E:AA->AB->Prop}{s:AB}{K:Frag}{x dx C f:Addr}{mA:Str->Option AA}{name:Str}{v:AA}
theorem get_map{expr:Bool}{Q:AA->AB->Prop}(X:K.In s.heap)(I:JW s.heap x dx C mA)(hg:plainGet K C name=true)(hh:hasDictIn K C=true)
  (ha:findIn K (.ref C) name=some none) (hv:mA name=some v) (hv':handedIn v=true) (h:Q v { s with toks:=s.toks+1 }) :
  wpAny (model prog w) A (getAttr (.ref x) name expr) Q E s:=by
 obtain⟨od,J,hl⟩:=I.look;exact PySem.W.get_value X J (plainGet_of hg).1 (PySem.W.findObj_own hh ha rfl (by rw[hl,hv])) hv' h
theorem Rk{pl:Sem Bool}{Q:AA×List AA->AB->Prop}(X:K.In s.heap)(I:JW s.heap x dx C mA)(hg:plainGet K C name=true)
  (hf:findIn K (.ref C) name=some (some (.ref f))) (ht:isFn K (.ref f)=true) (hv:mA name=none) (h:Q (.ref f,[.ref x]) s) :
  wpAny (model prog w) A (getMethod (.ref x) name pl) Q E s:=by
 obtain⟨od,J,hl⟩:=I.look;exact PySem.W.method_fn X J (plainGet_of hg).1 (plainGet_of hg).2 hf (beq_iff_eq.mp ht) (by show(lookIn name od).map (·.isSome)=some false; rw[hl,hv]; rfl) h
theorem Tw{ns:List Str}{Q:Unit->AB->Prop}(X:K.In s.heap)(I:JW s.heap x dx C mA)
  (hs:findIn K (.ref C) "__setattr__" = some (some (.builtin "object.__setattr__"))) (hp:plainOver K C=true) (ht:takerIn K C name=some none) (hh:hasDictIn K C=true)
  (hw:PySem.Within mA ns) (hsz:ns.length<=sizeLine)
  (h:∀h',JW h' x dx C (fun y=>if y=name then some v else mA y)->Heap.SameBut dx s.heap h'->Q () { s with heap:=h',toks:=s.toks+2 }) :
  wpAny (model prog w) A (setAttr (.ref x) name v) Q E s:=by
 obtain⟨od,J,hl⟩:=I.look;refine PySem.W.set_plain X J hs (PySem.W.osa_open (s:={ s with toks:=s.toks+1 }) (r:=none) X J hp ht fun b=>?_)
 obtain⟨cd,hc,hd'⟩:=PySem.W.any_some hh;have hx:s.heap.get? x=some ⟨.ref C,some dx,.plain,#[]⟩:=I.obj;refine aN (bV (aN (aN (wpAny_loadPart hx (aN (PySem.W.Looks.here (s:={ s with toks:=s.toks+1 }) (PySem.W.looks_clsIn X hc) ?_))))))
 rw[hd'];refine bV (a:=some dx) (aN (bV (aN ?_)));refine wpAny_nsSet1 (s:={ s with toks:=s.toks+1 }) I.ns fun h' hn2 hs2=>?_
 obtain⟨oD,esD,epD,hoD,hdD,hcD⟩:=hn2.count (PySem.Within.cons name v hw);refine aN (wpAny_lookBehind hoD (by rw[hdD]; exact pastItsLine_dict (iH hcD (by rw[fU]; omega))) ?_)
 exact bV (h _ ⟨(hs2.2 _ (Ne.symm I.ne)).trans I.obj,hn2,I.ne⟩ hs2)
theorem QX{R:Result->AB->Prop}{vs:List AA}{kw:List (Str×AA)}(X:K.In s.heap)(hm:makesIn K C=true)
  (hi:findIn K (.ref C) "__init__" = some (some (.ref f))) (hf:PySem.W.typeIn K (.ref f)=some (.type "function"))
  (h:codeAny (model prog w) (A.under (.builtin "type.__call__" ⟨.ref C::vs,kw⟩)) (.call (.ref f) ⟨.ref (s.heap.objs.size+1)::vs,kw⟩) (PySem.W.InitBack (s.heap.objs.size+1) R)
   { s with heap:=(s.heap.push emptyDict).push (instObj C s.heap.objs.size) }) :
  codeAny (model prog w) A (.call (.ref C) ⟨vs,kw⟩) R s:=by
 obtain⟨hh,g,d,t,os⟩:=s;exact PySem.W.make_core (PySem.W.makes_of X hm) (PySem.W.looks_findIn X hi) (fun self=>PySem.W.bind_fn X self hf) (.inl rfl) h
end
def jf(f:Str)(v:V):List (Str×V)->List (Str×V)
 | []=>[(f,v)]
 | (g,x)::r=>if g=f then(g,v)::r else(g,x)::jf f v r
theorem uT(f g:Str)(v:V):∀fs:List (Str×V),(jf f v fs).lookup g=if g=f then some v else fs.lookup g
 | []=>by
  show List.lookup g [(f,v)]=_;by_cases h:g=f
  ·have hb:(g==f)=true:=beq_iff_eq.mpr h;simp only[List.lookup,hb,bh h]
  ·have hb:(g==f)=false:=beq_eq_false_iff_ne.mpr h;simp only[List.lookup,hb,aX h]
 | (k,x)::r=>by
  have ih:=uT f g v r;rw[show jf f v ((k,x)::r)=(if k=f then(k,v)::r else(k,x)::jf f v r) from rfl]
  by_cases hk:k=f
  ·rw[bh hk];by_cases h:g=k
   ·have hb:(g==k)=true:=beq_iff_eq.mpr h;simp only[List.lookup,hb,bh (h.trans hk)]
   ·have hb:(g==k)=false:=beq_eq_false_iff_ne.mpr h;simp only[List.lookup,hb,aX (fun e:g=f=>h (e.trans hk.symm))]
  ·rw[aX hk];by_cases h:g=k
   ·have hb:(g==k)=true:=beq_iff_eq.mpr h;simp only[List.lookup,hb,aX (fun e:g=f=>hk (h.symm.trans e))]
   ·have hb:(g==k)=false:=beq_eq_false_iff_ne.mpr h;simp only[List.lookup,hb];exact ih
theorem uf(f:Str)(v:V):∀fs:List (Str×V),f∈(jf f v fs).map (·.1)/\∀g,g∈fs.map (·.1)->g∈(jf f v fs).map (·.1)
 | []=>⟨by simp[jf],fun g h=>by simp at h⟩
 | (k,x)::r=>by
  obtain⟨i1,i2⟩:=uf f v r;rw[show jf f v ((k,x)::r)=(if k=f then(k,v)::r else(k,x)::jf f v r) from rfl]
  by_cases hk:k=f
  ·rw[bh hk];subst hk;exact⟨by simp,fun g h=>by simpa using h⟩
  ·rw[aX hk];refine⟨?_,fun g h=>?_⟩
   ·rw[gH];exact cI _ i1
   ·rw[gH] at h ⊢;rcases bB.mp h with e | e
    ·exact bB.mpr (.inl e)
    ·exact cI _ (i2 g e)
theorem uU(f:Str)(v:V):∀fs:List (Str×V),(jf f v fs).length<=fs.length+1
 | []=>by simp[jf]
 | (k,x)::r=>by
  have ih:=uU f v r;rw[show jf f v ((k,x)::r)=(if k=f then(k,v)::r else(k,x)::jf f v r) from rfl]
  by_cases hk:k=f
  ·rw[bh hk,fU,fU]; omega
  ·rw[aX hk,fU,fU]; omega
theorem pR.some_of{v:V}{o:Option AA}(r:pR (some v) o):∃u,o=some u/\RelV v u:=by
 cases o with
 | none=>exact(show False from r).elim
 | some u=>exact⟨u,rfl,r⟩
theorem pR.none_of{o:Option AA}(r:pR none o):o=none:=by
 cases o with
 | none=>rfl
 | some u=>exact(show False from r).elim
theorem NQ{v:V}{u:AA}(r:RelV v u):handedIn u=true:=by
 cases v with
 | non=>cases(show u=Value.none from r); rfl
 | bl b=>cases(show u=Value.bool b from r); rfl
 | int i=>obtain⟨t,e⟩:=(show ∃t,u=Value.int i t from r); cases e; rfl
 | str x=>obtain⟨t,e⟩:=(show ∃t,u=Value.str x t from r); cases e; rfl
 | Oi b=>obtain⟨t,e⟩:=(show ∃t,u=Value.bytes b t from r); cases e; rfl
 | flt b=>obtain⟨t,e⟩:=(show ∃t,u=Value.float b t from r); cases e; rfl
 | ref a=>cases(show u=Value.ref a from r); rfl
 | ty n=>cases(show u=Value.type n from r); rfl
section
variable{P:AC}{w:World}{H H':Hp}{h h':Heap}{a C dx:Addr}{fs fs':List (Str×V)}
theorem vZ(hok:jK P w H h)(e:H a=some (.ins C dx fs)):∃mA,JW h a dx C mA/\(∀f,pR (fs.lookup f) (mA f))/\PySem.Within mA (fs.map (·.1))/\fs.length<=1000/\H dx=some (.own a):=by
 obtain⟨d,z,ne,ob,mA,n,r,q⟩:=(show b_ P w H h a (.ins C dx fs) from hok a _ e);exact⟨mA,⟨ob,n,ne⟩,r,q,z,d⟩
end
structure Hv(K:Frag)(C:Addr):Prop where
 pg:plainGet K C Str.empty=true
 hd:hasDictIn K C=true
 po:plainOver K C=true
 sa:findIn K (.ref C) "__setattr__" = some (some (.builtin "object.__setattr__"))
theorem Hv.get{K:Frag}{C:Addr}(c:Hv K C)(f:Str):plainGet K C f=true:=c.pg
def cJ(K:Frag)(C:Addr)(f:Str):Prop:=findIn K (.ref C) f=some none
theorem cJ.taker{K:Frag}{C:Addr}{f:Str}(n:cJ K C f):takerIn K C f=some none:=by
 unfold takerIn;rw[show findIn K (.ref C) f=some none from n];rfl
structure Con(K:Frag)(C:Addr)(f:Str)(v:V)(u:AA):Prop where
 at_:findIn K (.ref C) f=some (some u)
 rel:RelV v u
 get:specialIn K u "__get__" = some none
 cp:PySem.W.copiedNames.contains f=false
structure Meth(K:Frag)(C:Addr)(m:Str)(f:Addr):Prop where
 at_:findIn K (.ref C) m=some (some (.ref f))
 fn:isFn K (.ref f)=true
 kp:keepIn K (.ref f)=true
section
variable{X:Cx}{ae:List (Addr×Obj)}{σ:St}{H:Hp}{s:AB}{a C dx:Addr}{fs:List (Str×V)}{f:Str}{v:V}{A:Around}{E:AA->AB->Prop}
theorem Jz{b:Bool}{Q:AA->AB->Prop}(I:Inv X ae σ H s)(e:H a=some (.ins C dx fs))(c:Hv X.K C)(n:cJ X.K C f)(l:fs.lookup f=some v)
  (h:∀u s',Inv X ae σ H s'->RelV v u->Q u s'):wpAny (model X.prog X.w) A (getAttr (.ref a) f b) Q E s:=by
 obtain⟨mA,O,r,_,_,_⟩:=vZ I.hok e;obtain⟨u,hu,ru⟩:=pR.some_of (v:=v) (o:=mA f) (by rw[<- l]; exact r f)
 exact get_map I.vK O (c.get f) c.hd n hu (NQ ru) (h u _ (I.tok _) ru)
theorem yu{m:Str}{g:Addr}{pl:Sem Bool}{Q:AA×List AA->AB->Prop}(I:Inv X ae σ H s)(e:H a=some (.ins C dx fs))(c:Hv X.K C)(k:Meth X.K C m g)(l:fs.lookup m=none)
  (h:Q (.ref g,[.ref a]) s):wpAny (model X.prog X.w) A (getMethod (.ref a) m pl) Q E s:=by
 obtain⟨mA,O,r,_,_,_⟩:=vZ I.hok e;have hn:mA m=none:=pR.none_of (by rw[<- l]; exact r m)
 exact Rk I.vK O (c.get m) k.at_ k.fn hn h
theorem Im{y:V}{u:AA}{Q:Unit->AB->Prop}(I:Inv X ae σ H s)(e:H a=some (.ins C dx fs))(c:Hv X.K C)(n:cJ X.K C f)(hl:fs.length<1000)(ry:RelV y u)
  (h:∀s',Inv X ae σ (upd H a (.ins C dx (jf f y fs))) s'->Q () s'):wpAny (model X.prog X.w) A (setAttr (.ref a) f u) Q E s:=by
 obtain⟨mA,O,r,wi,_,ho⟩:=vZ I.hok e;have hz:(fs.map (·.1)).length<=sizeLine:=by rw[bN,sizeLine_eq]; omega
 refine Tw I.vK O c.sa c.po n.taker c.hd wi hz fun h' O' sb=>h _ ?_;have hd:∃o,h'.get? dx=some o:=let ⟨o,_,_,e',_⟩:=O'.ns; ⟨o,e'⟩;refine I.write (x:=a) (e:=dx) (by rw[e]; exact True.intro) (.inr ho) (fun b q hb z=>(sb.2 b hb).trans z) hd ?_
 refine⟨by rw[aH O.ne]; exact ho,?_,O.ne,O'.obj,_,O'.ns,fun g=>?_,fun g hg=>?_⟩
 ·have:=uU f y fs; omega
 ·show pR ((jf f y fs).lookup g) (if g=f then some u else mA g)
  rw[uT];by_cases q:g=f
  ·rw[bh q,bh q]; exact ry
  ·rw[aX q,aX q]; exact r g
 ·by_cases q:g=f
  ·rw[q]; exact(uf f y fs).1
  ·refine(uf f y fs).2 g (wi g fun z=>hg ?_);show(if g=f then some u else mA g)=none
   rw[aX q]; exact z
theorem Inv.made(I:Inv X ae σ H s):Inv X ae σ (upd (upd H s.heap.objs.size (.own (s.heap.objs.size+1))) (s.heap.objs.size+1) (.ins C s.heap.objs.size []))
  { s with heap:=(s.heap.push emptyDict).push (instObj C s.heap.objs.size) }:=by
 have e1:(s.heap.push emptyDict).get? s.heap.objs.size=some emptyDict:=cO s.heap rfl
 have e2:((s.heap.push emptyDict).push (instObj C s.heap.objs.size)).get? (s.heap.objs.size+1)=some (instObj C s.heap.objs.size):=by
  have:=cO (s.heap.push emptyDict) (o:=instObj C s.heap.objs.size) rfl
  rwa [fQ] at this
 have e3:(s.heap.push emptyDict).Ns s.heap.objs.size (fun _=>none):=⟨emptyDict,#[],_,e1,rfl,(fun e he=>absurd he (by simp)),fun _=>rfl⟩
 have I1:=I.laid (a:=s.heap.objs.size) (o:=.own (s.heap.objs.size+1)) (h':=s.heap.push emptyDict) (t':=s.toks) (fun b u q=>fB _ q) (bw _) ⟨_,e1⟩;refine I1.laid (a:=s.heap.objs.size+1) (o:=.ins C s.heap.objs.size []) (t':=s.toks) (fun b u q=>fB _ q) (Nat.le_of_eq (fQ _ _)) ?_;have ne:s.heap.objs.size≠s.heap.objs.size+1:=dJ (FJ _);refine⟨by rw[aH ne,aA],gC _,ne,e2,fun _=>none,(Heap.Ns1.of_empty e3).at fun o q=>fB _ q,fun _=>True.intro,fun y hy=>absurd rfl hy⟩
theorem Vq{prog:AC}{w:World}{env:Env}{e:Expr}{f:Str}{pos:Pos}{s:AB}{Q:AA->AB->Prop}(hb:attributeBase e f env (eval e env)=eval e env)
  (h:wpAny (model prog w) A (eval e env) (fun o s₁=>wpAny (model prog w) A (getAttr o f true) Q E s₁) E s):wpAny (model prog w) A (eval (.Attribute e f pos) env) Q E s:=
 Attribute_any_ h (by rw[arm_eval_Attribute,hb])
end
def Fd(K:Frag)(ta:TE)(f:Str):TE:=fun σ H Q=>ta σ H fun x H1=>∃a C dx fs v,x=.ref a/\H1 a=some (.ins C dx fs)/\Hv K C/\cJ K C f/\fs.lookup f=some v/\Q v H1
def Fq(K:Frag)(ta tv:TE)(f:Str):TS:=fun D σ H=>tv σ H fun y H1=>ta σ H1 fun x H2=>∃a C dx fs,x=.ref a/\H2 a=some (.ins C dx fs)/\Hv K C/\cJ K C f/\fs.length<1000 /\
 D.nx σ (upd H2 a (.ins C dx (jf f y fs)))
def abO(X:Cx)(op:Operator)(rd:V->V->Hp->VK->Prop):Prop:=
 ∀(ae:List (Addr×Obj))(s:AB)(σ:St)(H:Hp)(x y:V)(u v:AA)(Q:VK),Inv X ae σ H s->RelV x u->RelV y v->rd x y H Q->wpAny (model X.prog X.w) X.A (inplaceOp op u v) (EP X ae σ Q) X.xe s
section
variable{X:Cx}{o e value:Expr}{f:Str}{pos pos' tpos:Pos}{ta tv:TE}
theorem Xx(he:PE X e ta)(hb:attributeBase e f X.env (eval e X.env)=eval e X.env):PE X (.Attribute e f pos) (Fd X.K ta f):=by
 symm;intro Q I h;refine Vq hb (cz (he ae s σ H _ I h) fun u s1 qx=>?_);obtain⟨x,H1,I1,rx,a,C,dx,fs,v,ex,ea,c,n,l,q⟩:=qx;subst ex;obtain rfl:u=Value.ref a:=rx;exact Jz I1 ea c n l fun u' s2 I2 ru=>⟨v,H1,I2,ru,q⟩
theorem Xn(ha:PE X o ta)(hv:PE X value tv)(hs:swapsWith value (some (.Attribute o f pos')) pos.line X.env=pure false):PS X (.Assign [.Attribute o f pos'] value pos) (Fq X.K ta tv f):=by
 symm;intro D I h;refine plainObj_wpAny_Assign_Attribute (cz (hv ae s σ H _ I h) fun u s1 ⟨y,H1,I1,ry,q⟩=>cz (ha ae s1 σ H1 _ I1 q) fun ov s2 ⟨x,H2,I2,rx,a,C,dx,fs,ex,ea,c,n,l,q2⟩=>?_) hs;subst ex;obtain rfl:ov=Value.ref a:=rx;exact Im I2 ea c n l ry fun s3 I3=>⟨σ,_,I3,q2⟩
def adA:V->V->Hp->VK->Prop:=fun x y H Q=>∃i j,x=.int i/\y=.int j/\Q (.int (i+j)) H
theorem Yb:abO X .Add adA:=by
 rintro ae s σ H x y u v Q I rx ry ⟨i,j,rfl,rfl,q⟩;obtain⟨t,rfl⟩:=(show ∃t,u=Value.int i t from rx);obtain⟨t',rfl⟩:=(show ∃t',v=Value.int j t' from ry);exact PyProof.Rows.iadd_int ⟨.int (i+j),H,I.tok _,⟨_,rfl⟩,q⟩
end
section
variable{X:Cx}{ae:List (Addr×Obj)}{σ:St}{H:Hp}{s:AB}{A:Around}{E:AA->AB->Prop}{Q:AA->AB->Prop}{c:AA}{b:Bool}
inductive uv(K:Frag)(H:Hp):V->AA->Prop where
 | non:uv K H .non (.type "NoneType")
 | bl (x:Bool):uv K H (.bl x) (.type "bool")
 | int (i:Int):uv K H (.int i) (.type "int")
 | str (x:Str):uv K H (.str x) (.type "str")
 | flt (x:UInt64):uv K H (.flt x) (.type "float")
 | lst {a:Addr} {xs:List V} (e:H a=some (.lst xs)):uv K H (.ref a) (.type "list")
 | ug {a:Addr} {o:Obj} {xs:List V} (e:H a=some (.ug o (.lst xs))):uv K H (.ref a) (.type "list")
 | tup {a:Addr} {xs:List V} (e:H a=some (.tup xs)):uv K H (.ref a) (.type "tuple")
 | dK {a:Addr} {kvs:List (Key×V)} (e:H a=some (.dK kvs)):uv K H (.ref a) (.type "dict")
 | dT {a:Addr} {kvs:List (List Key×V)} (e:H a=some (.dT kvs)):uv K H (.ref a) (.type "dict")
 | ins {a C dx:Addr} {fs:List (Str×V)} (e:H a=some (.ins C dx fs)) (cl:Hv K C) (ha:findIn K (.ref C) "__class__" = some (some (.builtin "object.__class__")))
   (hn:specialIn K (.builtin "object.__class__") "__get__" = some (some (.builtin "getset_descriptor.__get__"))) (htk:PySem.W.takesIn K (.builtin "object.__class__")=some true)
   (hm:mroIn K C (.type "object")=some true):uv K H (.ref a) (.ref C)
theorem NB{x:V}{u t:AA}(I:Inv X ae σ H s)(rx:RelV x u)(ty:uv X.K H x t)(e:kitOne X.K t c=some b)(h:∀tk,Q (.bool b) { s with toks:=tk }) :
  wpAny (model X.prog X.w) A (call (.builtin "isinstance") [u,c]) Q E s:=by
 cases ty with
 | non=>cases(show u=Value.none from rx); exact kia_one PySem.W.kitx_none I.vK True.intro e (fun z=>nomatch z) h
 | bl y=>cases(show u=Value.bool y from rx); exact kia_one PySem.W.kitx_bool I.vK True.intro e (fun z=>nomatch z) h
 | int i=>obtain⟨t,q⟩:=(show ∃t,u=Value.int i t from rx); cases q; exact kia_one PySem.W.kitx_int I.vK True.intro e (fun z=>nomatch z) h
 | str y=>obtain⟨t,q⟩:=(show ∃t,u=Value.str y t from rx); cases q; exact kia_one PySem.W.kitx_str I.vK True.intro e (fun z=>nomatch z) h
 | flt y=>obtain⟨t,q⟩:=(show ∃t,u=Value.float y t from rx); cases q; exact kia_one PySem.W.kitx_float I.vK True.intro e (fun z=>nomatch z) h
 | @lst a xs ea=>
  cases(show u=Value.ref a from rx);obtain⟨_,_,n,_,h1⟩:=(show b_ X.prog X.w H s.heap a (.lst xs) from I.hok a _ ea);exact kia_one kitx_list I.vK ⟨_,h1,rfl⟩ e (fun z=>nomatch z) h
 | @ug a ob xs ea=>
  cases(show u=Value.ref a from rx);obtain⟨_,_,_,n,_,h1⟩:=(show b_ X.prog X.w H s.heap a (.ug ob (.lst xs)) from I.hok a _ ea);exact kia_one kitx_list I.vK ⟨_,h1,rfl⟩ e (fun z=>nomatch z) h
 | @tup a xs ea=>
  cases(show u=Value.ref a from rx);obtain⟨_,_,_,p⟩:=(show b_ X.prog X.w H s.heap a (.tup xs) from I.hok a _ ea);obtain⟨o,h1,h2,_⟩:=p;exact kia_one PySem.W.kitx_tuple I.vK ⟨o,h1,h2⟩ e (fun z=>nomatch z) h
 | @dK a kvs ea=>
  cases(show u=Value.ref a from rx);obtain⟨_,_,vs,_,p⟩:=(show b_ X.prog X.w H s.heap a (.dK kvs) from I.hok a _ ea);obtain⟨o,es,ep,h1,h2,_⟩:=p;exact kia_one kitx_dict I.vK ⟨o,h1,h2.1⟩ e (fun z=>nomatch z) h
 | @dT a kvs ea=>
  cases(show u=Value.ref a from rx);obtain⟨_,_,xs,_,o,es,ep,h1,h2,_⟩:=(show b_ X.prog X.w H s.heap a (.dT kvs) from I.hok a _ ea);exact kia_one kitx_dict I.vK ⟨o,h1,h2.1⟩ e (fun z=>nomatch z) h
 | @ins a C dx fs ea cl ha hn htk hm=>
  cases(show u=Value.ref a from rx);obtain⟨mA,O,_⟩:=vZ I.hok ea;obtain⟨od,J,_⟩:=O.look;exact kia_one (PySem.W.kitx_own (cl.get _) cl.hd ha hn htk hm) I.vK J e (fun z=>nomatch z) h
end
structure eG(k:Nat)(A:Around):Prop where
 hd:A.handled=none
 dp:A.depth+3*k+5<recursionLimit
 un:A.units+16*k+200<cLine
 gd:A.guards=some []
theorem eG.mono{j k:Nat}{A:Around}(r:eG k A)(h:j<=k):eG j A:=⟨r.hd,by have:=r.dp; omega,by have:=r.un; omega,r.gd⟩
theorem eG.deeper{k:Nat}{A:Around}(r:eG (k+1) A)(env:Env):eG k (A.deeper env):=
 ⟨r.hd,by have:=r.dp; show A.depth+1+3*k+5<_; omega,by have:=r.un; show A.units+3+16*k+200<_; omega,by first | exact r.gd | (simpa[Around.deeper,Around.under,Code.guards,Code.isGuard,guardIds,pushGuards] using r.gd)⟩
theorem Js{A:Around}{C:Addr}{us:List AA}{kw:List (Str×AA)}:(A.under (.builtin "type.__call__" ⟨.ref C::us,kw⟩)).depth=A.depth+1:=by
 first | rfl | simp[Around.under,Code.weight,Code.isCreation,Code.isGuard,Code.isCaller,Code.frames,Code.isFrame,guardIds]
theorem Jr{A:Around}{C:Addr}{us:List AA}{kw:List (Str×AA)}:(A.under (.builtin "type.__call__" ⟨.ref C::us,kw⟩)).units=A.units+1:=by
 first | rfl | simp[Around.under,Code.cUnits,Code.frames,Code.isFrame]
theorem eG.make{k:Nat}{A:Around}(r:eG (k+1) A)(C:Addr)(us:List AA)(kw:List (Str×AA)):eG k (A.under (.builtin "type.__call__" ⟨.ref C::us,kw⟩)):=
 ⟨r.hd,by have:=r.dp; rw[Js]; omega,by have:=r.un; rw[Jr]; omega,by first | exact r.gd | (simpa[Around.deeper,Around.under,Code.guards,Code.isGuard,guardIds,pushGuards] using r.gd)⟩
theorem eG.depth{k:Nat}{A:Around}(r:eG k A):A.depth<recursionLimit:=by have:=r.dp; omega
theorem eG.units{k:Nat}{A:Around}(r:eG k A):A.units+64<cLine:=by have:=r.un; omega
def qt:TA:=fun _ H Q=>Q [] H
def iz(ta:TE)(tr:TA):TA:=fun σ H Q=>ta σ H fun x H1=>tr σ H1 fun xs H2=>Q (x::xs) H2
section
variable{X:Cx}{e:Expr}{es:List Expr}{te:TE}{t:TA}{pos:Pos}
theorem aj:PA X [] qt:=.mk <| fun _ _ _ _ H Q I h=>Calls.spliced_nil ⟨[],H,I,.nil,h⟩
theorem Uk(ha:PE X e te)(hr:PA X es t)(hs: ~~~(starEach (e::es) X.env=(false,eval e X.env)::starEach es X.env)):PA X (e::es) (iz te t):=by
 refine .mk ?_;intro pos ae s σ H Q I h;rw[hs];show wpAny _ _ (spliced ((false,eval e X.env)::backTo pos (starEach es X.env))) _ _ s;refine Calls.spliced_cons (cz (ha ae s σ H _ I h) fun u s1 qx=>?_);obtain⟨x,H1,I1,r1,q1⟩:=qx;exact cz (hr pos ae s1 σ H1 _ I1 q1) fun us s2 ⟨xs,H2,I2,r2,q2⟩=>⟨x::xs,H2,I2,.cons r1 r2,q2⟩
def HY(t:TA):TE:=fun σ H Q=>t σ H fun xs H1=>xs.length<=sizeLine/\∀p,H1 p=none->Q (.ref p) (upd H1 p (.tup xs))
def EY(t:TA):TE:=fun σ H Q=>t σ H fun xs H1=>xs.length<=sizeLine/\∀p,H1 p=none->Q (.ref p) (upd H1 p (.lst xs))
theorem Xw(h:PA X es t):PE X (.List es pos) (EY t):=by
 symm;intro Q I hq;refine wpAny_List_spliced (cz (h pos ae s σ H _ I hq) fun us s1 ⟨xs,H1,I1,r,z,q⟩=>⟨by rw[<- r.length]; exact z,?_⟩)
 have hf:H1 s1.heap.objs.size=none:=I1.hok.fresh (bw _);refine⟨.ref s1.heap.objs.size,upd H1 s1.heap.objs.size (.lst xs),I1.laid (t':=s1.toks) (fun b u e=>fB _ e) (bw _) ?_,rfl,q _ hf⟩;exact⟨z,us,0,r,cO _ rfl⟩
end
abbrev Sp:=List V->Hp->VK->XK->Prop
abbrev Lx:=List Env->Hp->AB->XK->AA->AB->Prop
structure J3(P:AC)(w:World)(K:Frag)(mg:Str->Option AA)(base:Heap)(A:Around)(outer:List Env)(s:AB)(H:Hp):Prop where
 frames:A.frames=some outer
 mod:Mod K mg base
 bs:∀b o,base.get? b=some o->s.heap.get? b=some o/\H b=none
 R0:base.objs.size<=s.heap.objs.size
 vM:s.heap.FunFrames base outer
 Yj:∀b∈frs outer,H b=none
 hok:jK P w H s.heap
 bare:AllBare s.gens
def CE(outer:List Env)(P:AC)(w:World)(H:Hp)(s:AB)(Q:VK)(u:AA)(s':AB):Prop:=
 ∃v H',s'.os=s.os/\AllBare s'.gens/\Un (frs outer) [] H H' s.heap s'.heap/\jK P w H' s'.heap/\RelV v u/\Q v H'
def CR(CX:Lx)(outer:List Env)(P:AC)(w:World)(H:Hp)(s:AB)(Q:VK)(E:XK)(r:Result)(s':AB):Prop:=
 match r with
 | .ok (.ret u)=>CE outer P w H s Q u s'
 | .ok _=>False
 | .error e=>CX outer H s E e s'
structure bF(P:AC)(w:World)(K:Frag)(mg:Str->Option AA)(base:Heap)(CX:Lx)(k:Nat)(f:Addr)(fd:FuncData)(ps:List Str)(sp:Sp):Prop where
 len:∀vs H Q E,sp vs H Q E->vs.length=ps.length
 run:∀(A:Around)(outer:List Env)(s:AB)(H:Hp)(args:Args)(us:List AA)(vs:List V)(Q:VK)(E:XK),eG k A->J3 P w K mg base A outer s H->BindsTo s fd args (ps.zip us)->Vals vs us->sp vs H Q E ->
  codeAny (model P w) A (.call (.ref f) args) (CR CX outer P w H s Q E) s
theorem bF.mono{P:AC}{w:World}{K:Frag}{mg:Str->Option AA}{base:Heap}{CX:Lx}{j k:Nat}{f:Addr}{fd:FuncData}{ps:List Str}{sp:Sp}(F:bF P w K mg base CX j f fd ps sp)(h:j<=k) :
  bF P w K mg base CX k f fd ps sp:=⟨F.len,fun A outer s H args us vs Q E hr=>F.run A outer s H args us vs Q E (hr.mono h)⟩
theorem J3.make{P:AC}{w:World}{K:Frag}{mg:Str->Option AA}{base:Heap}{A:Around}{outer:List Env}{s:AB}{H:Hp}(e:J3 P w K mg base A outer s H)(C:Addr)(us:List AA)(kw:List (Str×AA)) :
  J3 P w K mg base (A.under (.builtin "type.__call__" ⟨.ref C::us,kw⟩)) outer s H:=⟨by first | exact e.frames | (simpa[Around.under,Code.envs,Code.isFrame,pushEnvs] using e.frames),e.mod,e.bs,e.R0,e.vM,e.Yj,e.hok,e.bare⟩
section
variable{X:Cx}{ae:List (Addr×Obj)}{σ:St}{H:Hp}{s s':AB}
theorem Inv.env0(I:Inv X ae σ H s):J3 X.prog X.w X.K X.mg X.base X.A X.stack s H:=
 ⟨I.ok.frames,I.ok.mod,I.bs,iH I.ok.R0 I.sz,I.stack,I.BZ,I.hok,I.bare⟩
theorem Inv.after{Q:VK}{u:AA}(I:Inv X ae σ H s)(h:CE X.stack X.prog X.w H s Q u s'):EP X ae σ Q u s':=by
 obtain⟨v,H',os,bare,un,hok,r,q⟩:=h;obtain⟨hh,g,d,t,os'⟩:=s';obtain rfl:os'=s.os:=os;exact⟨v,H',I.call (h':=hh) (g':=g) (d':=d) (t':=t) (ch:=[]) un hok bare (fun b z=>absurd z (by simp)),r,q⟩
end
def iU(sp:Sp)(vO:List V)(E:XK)(t:TA):TE:=fun σ H Q=>t σ H fun vs H1=>sp (vs++vO) H1 Q E
def mz(C:Addr)(m:Str)(sp:Sp)(vO:List V)(E:XK)(ta:TE)(t:TA):TE:=fun σ H Q=>ta σ H fun x H1=>∃a dx fs,x=.ref a/\H1 a=some (.ins C dx fs)/\fs.lookup m=none /\
 t σ H1 fun vs H2=>sp (x::(vs++vO)) H2 Q E
def rm(C:Addr)(sp:Sp)(vO:List V)(E:XK)(t:TA):TE:=fun σ H Q=>t σ H fun vs H1=>∀x dx,H1 x=none->H1 dx=none->dx≠x ->
 sp (.ref x::(vs++vO)) (upd (upd H1 dx (.own x)) x (.ins C dx [])) (fun v H2=>v=.non/\Q (.ref x) H2) E
def Binds(K:Frag)(fd:FuncData)(ps:List Str)(ds:List AA):Prop:=
 ∀(s:AB)(us:List AA),K.In s.heap->(us++ds).length=ps.length->BindsTo s fd ⟨us,[]⟩ (ps.zip (us++ds))
theorem Binds.all{K:Frag}{fd:FuncData}{ps:List Str}(h:∀us:List AA,us.length=ps.length->bindArgs fd ⟨us,[]⟩=pure (ps.zip us)):Binds K fd ps []:=fun s us _ hl=>by
 rw[qF] at hl ⊢;exact .of_eq (h us hl)
def Passes(CX:Lx)(X:Cx)(E:XK):Prop:=∀(ae:List (Addr×Obj))(σ:St)(H:Hp)(s:AB)(e:AA)(s':AB),Inv X ae σ H s->CX X.stack H s E e s'->X.xe e s'
section
variable{X:Cx}{CX:Lx}{k:Nat}{f C:Addr}{fd:FuncData}{ps:List Str}{sp:Sp}{vO:List V}{ds:List AA}{E:XK}{x m:Str}{p pos apos:Pos}{e o:Expr}{es:List Expr}{ta:TE}{t:TA}
theorem Iw{ae:List (Addr×Obj)}{σ:St}{H:Hp}{s:AB}{Q:VK}{us:List AA}{vs:List V}(F:bF X.prog X.w X.K X.mg X.base CX k f fd ps sp)(hr:eG k X.A)(hb:Binds X.K fd ps ds)(hd:Vals vO ds)(hx:Passes CX X E)
  (I:Inv X ae σ H s) (r:Vals vs us) (h:sp (vs++vO) H Q E):wpAny (model X.prog X.w) X.A (call (.ref f) us) (EP X ae σ Q) X.xe s:=by
 have r2:Vals (vs++vO) (us++ds):=r.append hd;have hl:(us++ds).length=ps.length:=by rw[<- r2.length]; exact F.len _ _ _ _ h
 refine wpAny_call (codeAny_mono (F.run X.A X.stack s H ⟨us,[]⟩ (us++ds) (vs++vO) Q E hr I.env0 (hb s us I.vK hl) r2 h) fun r s' hq=>?_);cases r with
 | error e=>exact hx ae σ H s e s' I hq
 | ok fl=>
  cases fl with
  | ret u=>exact I.after hq
  | next=>exact False.elim hq
  | brk=>exact False.elim hq
  | cont=>exact False.elim hq
theorem KJ(F:bF X.prog X.w X.K X.mg X.base CX k f fd ps sp)(hr:eG k X.A)(hg:Gl X x)(hm:X.mg x=some (.ref f))(hk:keepIn X.K (.ref f)=true)(hb:Binds X.K fd ps ds)(hd:Vals vO ds)(hx:Passes CX X E)
  (ha:PA X (e::es) t) (hdb:((x==("__debug__" : Str))=false)⁻¹) (he: ~~~(starEach (e::es) X.env=(false,eval e X.env)::starEach es X.env)) (hpl: ~~~((backTo pos (starEach es X.env)).any (·.1)=false)) :
  PE X (.Call (.Name x p) (e::es) [] pos) (iU sp vO E t):=by
 symm;intro Q I h;refine vm (vY I hg hm ?_ hdb);refine callWith_K (h₀:=X.base) I.ok.mod.V_ hk (cz (ha pos ae s σ H _ I h) fun us s1 ⟨vs,H1,I1,r,q⟩=>⟨I1.vK,?_⟩) he hpl;exact Iw F hr hb hd hx I1 r q
theorem Ug{pl:Sem Bool}(he:PE X o ta)(c:Hv X.K C)(hm:Meth X.K C m f)(F:bF X.prog X.w X.K X.mg X.base CX k f fd ps sp)(hr:eG k X.A)(hb:Binds X.K fd ps ds)(hd:Vals vO ds)(hx:Passes CX X E)(ha:PA X (e::es) t)
  (hst: ~~~(starEach (e::es) X.env=(false,eval e X.env)::starEach es X.env)) (hpl: ~~~((backTo pos (starEach es X.env)).any (·.1)=false))
  (ht: ~~~(eval (.Call (.Attribute o m apos) (e::es) [] pos) X.env=(do
   let ov <- eval o X.env
   standAt apos.atName
   let (f,first) <- holding [ov] (getMethod ov m pl)
   callWith pos f first (backTo pos (starEach (e::es) X.env)) (backToKw pos (keywordEach [] X.env))))) :
  PE X (.Call (.Attribute o m apos) (e::es) [] pos) (mz C m sp vO E ta t):=by
 symm;intro Q I h;refine methodCall_KW (pl:=pl) (cz (he ae s σ H _ I h) fun u s1 ⟨x,H1,I1,rx,a,dx,fs,ex,ea,l,q⟩=>?_) ht;subst ex;obtain rfl:u=Value.ref a:=rx;refine yu I1 ea c hm l ?_;refine callWith_K (first:=[.ref a]) (h₀:=X.base) I.ok.mod.V_ hm.kp (cz (ha pos ae s1 σ H1 _ I1 q) fun us s2 ⟨vs,H2,I2,r,q2⟩=>⟨I2.vK,?_⟩) hst hpl
 exact Iw (us:=.ref a::us) (vs:=.ref a::vs) F hr hb hd hx I2 (.cons rfl r) q2
theorem QH{pl:Sem Bool}(he:PE X o ta)(c:Hv X.K C)(hm:Meth X.K C m f)(F:bF X.prog X.w X.K X.mg X.base CX k f fd ps sp)(hr:eG k X.A)(hb:Binds X.K fd ps ds)(hd:Vals vO ds)(hx:Passes CX X E)
  (ht: ~~~(eval (.Call (.Attribute o m apos) [] [] pos) X.env=(do
   let ov <- eval o X.env
   standAt apos.atName
   let (f,first) <- holding [ov] (getMethod ov m pl)
   callWith pos f first (backTo pos (starEach [] X.env)) (backToKw pos (keywordEach [] X.env))))) :
  PE X (.Call (.Attribute o m apos) [] [] pos) (mz C m sp vO E ta qt):=by
 symm;intro Q I h;refine methodCall_KW (pl:=pl) (cz (he ae s σ H _ I h) fun u s1 ⟨x,H1,I1,rx,a,dx,fs,ex,ea,l,q⟩=>?_) ht;subst ex;obtain rfl:u=Value.ref a:=rx;refine yu I1 ea c hm l ?_;exact PySem.W.callWith_K0 (first:=[.ref a]) I1.vK hm.kp (Iw (us:=[.ref a]) (vs:=[.ref a]) F hr hb hd hx I1 (.cons rfl .nil) q)
structure Mk(K:Frag)(C f:Addr):Prop where
 makes:makesIn K C=true
 init:findIn K (.ref C) "__init__" = some (some (.ref f))
 fn:isFn K (.ref f)=true
 kp:keepIn K (.ref C)=true
theorem Qk{ae:List (Addr×Obj)}{σ:St}{H:Hp}{s:AB}{Q:VK}{us:List AA}{vs:List V}(M:Mk X.K C f)(F:bF X.prog X.w X.K X.mg X.base CX k f fd ps sp)(hr:eG (k+1) X.A)(hb:Binds X.K fd ps ds)(hd:Vals vO ds)
  (hx:Passes CX X E) (I:Inv X ae σ H s) (r:Vals vs us)
  (h:∀x dx,H x=none->H dx=none->dx≠x->sp (.ref x::(vs++vO)) (upd (upd H dx (.own x)) x (.ins C dx [])) (fun v H2=>v=.non/\Q (.ref x) H2) E) :
  wpAny (model X.prog X.w) X.A (call (.ref C) us) (EP X ae σ Q) X.xe s:=by
 have hq:=h (s.heap.objs.size+1) s.heap.objs.size (I.hok.fresh (Al _)) (I.hok.fresh (bw _)) (dJ (FJ _));have I2:=Inv.made (C:=C) I;have r2:Vals (V.ref (s.heap.objs.size+1)::(vs++vO)) (Value.ref (s.heap.objs.size+1)::(us++ds)):=.cons rfl (r.append hd)
 have hl:(Value.ref (s.heap.objs.size+1)::us++ds).length=ps.length:=by
  have e:=r2.length;rw[F.len _ _ _ _ hq] at e;exact e.symm
 refine wpAny_call (QX (f:=f) I.vK M.makes M.init (beq_iff_eq.mp M.fn) (codeAny_mono (F.run _ X.stack _ _ ⟨Value.ref (s.heap.objs.size+1)::us,[]⟩ (Value.ref (s.heap.objs.size+1)::(us++ds)) _ _ E (hr.make C us [])
  (I2.env0.make C us []) (hb _ (Value.ref (s.heap.objs.size+1)::us) I2.vK hl) r2 hq) fun r s' hq'=>?_))
 cases r with
 | error e=>exact hx ae σ _ _ e s' I2 hq'
 | ok fl=>
  cases fl with
  | ret u=>
   obtain⟨v,H',I3,rv,ev,q3⟩:=I2.after hq';subst ev;exact⟨rv,⟨V.ref (s.heap.objs.size+1),H',I3,rfl,q3⟩⟩
  | next=>exact False.elim hq'
  | brk=>exact False.elim hq'
  | cont=>exact False.elim hq'
theorem KH(M:Mk X.K C f)(F:bF X.prog X.w X.K X.mg X.base CX k f fd ps sp)(hr:eG (k+1) X.A)(hg:Gl X x)(hm:X.mg x=some (.ref C))(hb:Binds X.K fd ps ds)(hd:Vals vO ds)(hx:Passes CX X E)
  (ha:PA X (e::es) t) (hdb:((x==("__debug__" : Str))=false)⁻¹) (he: ~~~(starEach (e::es) X.env=(false,eval e X.env)::starEach es X.env)) (hpl: ~~~((backTo pos (starEach es X.env)).any (·.1)=false)) :
  PE X (.Call (.Name x p) (e::es) [] pos) (rm C sp vO E t):=by
 symm;intro Q I h;refine vm (vY I hg hm ?_ hdb);refine callWith_K (h₀:=X.base) I.ok.mod.V_ M.kp (cz (ha pos ae s σ H _ I h) fun us s1 ⟨vs,H1,I1,r,q⟩=>⟨I1.vK,?_⟩) he hpl;exact Qk M F hr hb hd hx I1 r q
end
def PK(X:Cx)(kws:List Keyword)(t:TA):Prop:=
 ∀(pos:Pos)(ae:List (Addr×Obj))(s:AB)(σ:St)(H:Hp)(Q:List V->Hp->Prop),Inv X ae σ H s->t σ H Q->wpAny (model X.prog X.w) X.A (evalAll ((backToKw pos (keywordEach kws X.env)).map (·.2))) (AP X ae σ Q) X.xe s
section
variable{X:Cx}{CX:Lx}{k:Nat}{f C:Addr}{fd:FuncData}{ps ks:List Str}{sp:Sp}{E:XK}{x m:Str}{p pos apos UL:Pos}{e o:Expr}{es:List Expr}{kws:List Keyword}{te ta:TE}{t tk:TA}{nm:Option Str}
theorem Xp:PK X [] qt:=fun _ _ _ _ H Q I h=>wpAny_evalAll_nil ⟨[],H,I,.nil,h⟩
theorem T_(ha:PE X e te)(hr:PK X kws t):PK X (⟨nm,e,UL⟩::kws) (iz te t):=by
 intro pos ae s σ H Q I h;show wpAny _ _ (evalAll ((do let v <- eval e X.env; standAt pos; pure v)::(backToKw pos (keywordEach kws X.env)).map (·.2))) _ _ s
 refine wpAny_evalAll_cons (aN (cz (ha ae s σ H _ I h) fun u s1 ⟨x,H1,I1,r1,q1⟩=>aN (Cm (bV ?_))));exact cz (hr pos ae s1 σ H1 _ I1 q1) fun us s2 ⟨xs,H2,I2,r2,q2⟩=>⟨x::xs,H2,I2,.cons r1 r2,q2⟩
structure afa(K:Frag)(fd:FuncData)(ps ks:List Str)(g:List AA->List AA->List AA)(gV:List V->List V->List V):Prop where
 to:∀(s:AB)(us ws:List AA),K.In s.heap->(g us ws).length=ps.length->BindsTo s fd ⟨us,ks.zip ws⟩ (ps.zip (g us ws))
 rel:∀{vs:List V}{us:List AA}{zs:List V}{ws:List AA},Vals vs us->Vals zs ws->Vals (gV vs zs) (g us ws)
variable{g:List AA->List AA->List AA}{gV:List V->List V->List V}
end
structure aV(N P:List Str)(sc:Scope):Prop where
 kind:sc.kind=.function
 co:sc.isCoroutine=false
 gen:sc.isGenerator=false
 nd:N.Nodup
 pre:N.take P.length=P
 par:∀x∈P,sc.names.lookup x=some .local\/sc.names.lookup x=some .cell
 XH:∀y∈sc.names,y.2≠.free
theorem Bs{kindOf:Str->Option NameKind}{x:Str}:∀{binds:List (Str×AA)}{m:Str->Option AA},(∀v,(x,v)∉binds)->bindL kindOf binds m x=m x
 | [],_,_=>rfl
 | (n,v)::r,m,h=>by
  unfold bindL;rw[Bs fun w hw=>h w (cI _ hw)];split
  ·have:x≠n:=by rintro rfl; exact h v dg
   simp[this]
  ·rfl
theorem Bu{kindOf:Str->Option NameKind}{x:Str}:∀{binds:List (Str×AA)}{m:Str->Option AA},(∀v,(x,v)∉binds)->bindC kindOf binds m x=m x
 | [],_,_=>rfl
 | (n,v)::r,m,h=>by
  unfold bindC;rw[Bu fun w hw=>h w (cI _ hw)];split
  ·rfl
  ·have:x≠n:=by rintro rfl; exact h v dg
   simp[this]
theorem Bt{kindOf:Str->Option NameKind}{x:Str}{v:AA}:∀{P:List Str}{vs:List AA}{i:Nat}{m:Str->Option AA},P.Nodup->P[i]?=some x->vs[i]?=some v->kindOf x=some .local ->
  bindL kindOf (P.zip vs) m x=some v
 | [],_,_,_,_,h,_,_=>by simp at h
 | _::_,[],_,_,_,_,h,_=>by simp at h
 | p::P,w::vs,0,m,nd,h1,h2,hk=>by
  simp at h1 h2; subst h1; subst h2;show bindL kindOf ((p,w)::P.zip vs) m p=_;unfold bindL;rw[Bs fun v hv=>(km.mp nd).1 (Aq hv).1,bh hk];simp
 | p::P,w::vs,i+1,m,nd,h1,h2,hk=>by
  show bindL kindOf ((p,w)::P.zip vs) m x=_;unfold bindL;exact Bt (i:=i) (km.mp nd).2 (by simpa using h1) (by simpa using h2) hk
theorem Bv{kindOf:Str->Option NameKind}{x:Str}{v:AA}:∀{P:List Str}{vs:List AA}{i:Nat}{m:Str->Option AA},P.Nodup->P[i]?=some x->vs[i]?=some v->kindOf x≠some .local ->
  bindC kindOf (P.zip vs) m x=some v
 | [],_,_,_,_,h,_,_=>by simp at h
 | _::_,[],_,_,_,_,h,_=>by simp at h
 | p::P,w::vs,0,m,nd,h1,h2,hk=>by
  simp at h1 h2; subst h1; subst h2;show bindC kindOf ((p,w)::P.zip vs) m p=_;unfold bindC;rw[Bu fun v hv=>(km.mp nd).1 (Aq hv).1,aX hk];simp
 | p::P,w::vs,i+1,m,nd,h1,h2,hk=>by
  show bindC kindOf ((p,w)::P.zip vs) m x=_;unfold bindC;exact Bv (i:=i) (km.mp nd).2 (by simpa using h1) (by simpa using h2) hk
def start(N:List Str)(vs:List V):St:=vs.map some++List.replicate (N.length-vs.length) none
def k_(CX:Lx)(P:AC)(w:World)(K:Frag)(mg:Str->Option AA)(base:Heap)(N:List Str)(qual:Str)(scope:Scope)(f:Addr)(cd:AA)(A:Around)(outer:List Env)(s:AB)(H:Hp)(E:XK):Cx where
 prog:=P
 w:=w
 K:=K
 mg:=mg
 base:=base
 A:=A.deeper (envOfC qual scope s.heap.objs.size f cd)
 N:=N
 s₀:=s
 H₀:=H
 env:=envOfC qual scope s.heap.objs.size f cd
 outer:=outer
 stack:=envOfC qual scope s.heap.objs.size f cd::outer
 ex:=[]
 calm:=true
 fn:=fun _=>true
 pn:=[]
 xe:=fun e s'=>wpAny (model P w) (A.deeper (envOfC qual scope s.heap.objs.size f cd)) (leaving (envOfC qual scope s.heap.objs.size f cd) e) (fun _ s''=>CX outer H s E e s'') (fun e' s''=>CX outer H s E e' s'') s'
theorem Hd{sc:Scope}{n:Nat}{x:Str}(h:sc.names.lookup x=some .cell):∃c,(cellsFrom n sc.names []).lookup x=some c:=by
 have q:=cellsFrom_some sc.names n [] (.inl h);exact Qq.mp q
theorem Bb{CX:Lx}{P:AC}{w:World}{K:Frag}{mg:Str->Option AA}{base:Heap}{N ps:List Str}{qual:Str}{scope:Scope}{f:Addr}{cd:AA}{A:Around}{outer:List Env}{s s1:AB}{H:Hp}{E:XK}{us:List AA}{vs:List V}
  (S:aV N ps scope) (hd:A.handled=none) (e0:J3 P w K mg base A outer s H) (hl:vs.length=ps.length) (r:Vals vs us)
  (x:InCallC s s.heap.objs.size (bindL (envOfC qual scope s.heap.objs.size f cd).kindOf (ps.zip us) fun _=>none) (cellsFrom (s.heap.objs.size+1) scope.names []) (bindC (envOfC qual scope s.heap.objs.size f cd).kindOf (ps.zip us) fun _=>none) s1) :
  Inv (k_ CX P w K mg base N qual scope f cd A outer s H E) [] (start N vs) H s1:=by
 have hpl:ps.length<=N.length:=by have:=pI List.length S.pre; rw[kI] at this; omega
 obtain⟨h1,tk,rfl,hk⟩:=x.done;have noA:∀b:Addr,b∉(k_ CX P w K mg base N qual scope f cd A outer s H E).ex:=fun b z=>absurd (show b∈([]:List Addr) from z) (by simp)
 refine⟨⟨e0.mod,S.kind,rfl,rfl,bw _,fun y z c h1 h2=>?_,fun y hy=>?_,fun y c _ h=>?_,fun _=>hd,Around.frames_deeper e0.frames,.inr ⟨rfl,rfl⟩,fun b z=>absurd z (noA b),e0.bs,e0.R0,fun b _ _=>noA b,fun b z=>absurd z (noA b),e0.vM,e0.Yj⟩,
  rfl,e0.bare,Un.kept hk,⟨_,x.toInCall.ns,fun i y v h1 h2 h3=>?_⟩,fun y c h=>⟨_,x.cell y c h⟩,e0.hok.fresh (bw _),fun y c h=>?_,fun p hp=>absurd (show p∈([]:List (Addr×Obj)) from hp) (by simp),e0.hok.kept hk,?_⟩
 ·exact name_of_addr x.apart (PySem.mem_of_lookup h1) (PySem.mem_of_lookup h2)
 ·have hy:scope.names.lookup y=some .cell\/scope.names.lookup y=some .free:=hy;rcases hy with hy | hy
  ·exact Hd hy
  ·exact absurd rfl (S.XH _ (PySem.mem_of_lookup hy))
 ·exact nY (x.above y c (PySem.mem_of_lookup h))
 ·have hi:i<vs.length:=by
   unfold start at h2;by_cases hi:i<vs.length
   ·exact hi
   ·rw[vy (by simpa using hi)] at h2
    rw[Kw] at h2;split at h2 <;> cases h2
  have ha:vs[i]?=some v:=by
   unfold start at h2;rw[zj (by simpa using hi),cA] at h2
   cases e:vs[i]? with
   | none=>rw[e] at h2; cases h2
   | some a=>rw[e] at h2; cases h2; rfl
  obtain⟨u,hu,rv⟩:=r.get ha
  have hp:ps[i]?=some y:=by
   rw[<- S.pre,List.getElem?_take_of_lt ∅]; exact h1
  have ndP:ps.Nodup:=by rw[<- S.pre]; exact S.nd.sublist (List.take_sublist _ _)
  refine⟨u,rv,?_⟩;rcases S.par y (dC hp) with k | k
  ·exact .inl ⟨k,Bt ndP hp hu k⟩
  ·obtain⟨c,e⟩:=Hd (n:=s.heap.objs.size+1) k;refine .inr ⟨.inl k,c,e,?_⟩;have q:=x.cell y c e;rw[Bv ndP hp hu (by show scope.names.lookup y≠_; rw[k]; decide)] at q
   exact q
 ·exact e0.hok.fresh (nY (x.above y c (PySem.mem_of_lookup h)))
 ·unfold start;show _=N.length;rw[cC,bN,pM];omega
theorem Wh{CX:Lx}{P:AC}{w:World}{K:Frag}{mg:Str->Option AA}{base:Heap}{k:Nat}{f:Addr}{name qual:Str}{params:Arguments}{body:List Stmt}{scope:Scope}{dV kV doc pm cdv ct oc:AA}{an od:Option Addr}
  {osl:Array (Option AA)} {N ps:List Str} {sp:Sp} (lk:K.lookup f=some ⟨oc,od,.func (fnOf name qual params body scope dV kV doc pm an cdv ct),osl⟩) (hcd:codeIn K cdv qual=true) (S:aV N ps scope)
  (len:∀vs H Q E,sp vs H Q E->vs.length=ps.length)
  (hbody:∀(A:Around)(outer:List Env)(s:AB)(H:Hp)(vs:List V)(Q:VK)(E:XK),eG k (A.deeper (envOfC qual scope s.heap.objs.size f cdv))->sp vs H Q E ->
   ∃t,Ej (k_ CX P w K mg base N qual scope f cdv A outer s H E) body t/\t { nx:=fun _ H'=>Q .non H',rt:=Q } (start N vs) H) :
  bF P w K mg base CX (k+1) f (fnOf name qual params body scope dV kV doc pm an cdv ct) ps sp:=by
 refine⟨len,fun A outer s H args us vs Q E hr e0 hb r hsp=>?_⟩;have hl:=len _ _ _ _ hsp;have KX:K.In s.heap:=e0.mod.V_.keeps fun b o e=>(e0.bs b o e).1;have lim:s.heap.NoLimit:=e0.mod.nolimit.keeps fun b o e=>(e0.bs b o e).1
 have hkind:∀y∈ps.zip us,scope.names.lookup y.1=some .local\/(scope.names.lookup y.1=some .cell/\((cellsFrom (s.heap.objs.size+1) scope.names []).lookup y.1).isSome=true):=fun⟨n,v⟩ hy=>by
  rcases S.par n (Aq hy).1 with q | q
  ·exact .inl q
  ·exact .inr ⟨q,cellsFrom_some _ _ _ (.inl q)⟩
 refine codeAny_call_function hr.depth (KX _ _ lk) rfl S.co S.gen rfl (codeRec_of KX hcd) (hb _ _ _ _ ?_);refine wpAny_newFunctionEnv_cells S.kind hkind fun env he s1 x=>?_;subst he;refine⟨lim.keeps x.toInCall.keep,codeAny_func ?_⟩;obtain⟨t,ht,hq⟩:=hbody A outer s H vs Q E (hr.deeper _) hsp;have I:Inv (k_ CX P w K mg base N qual scope f cdv A outer s H E) [] (start N vs) H s1:=Bb S hr.hd e0 hl r x;refine nW (ht [] s1 (start N vs) H _ I hq) (fun fl s' hs=>?_) fun e s' hs=>hs
 have fin:∀{σ':St}{H':Hp}{v:V}{u:AA},Inv (k_ CX P w K mg base N qual scope f cdv A outer s H E) [] σ' H' s'->RelV v u->Q v H'->CE outer P w H s Q u s':=
  fun {σ' H' v u} J rv q=>⟨v,H',J.os,J.bare,J.base,J.hok,rv,q⟩
 cases fl with
 | ret u=>
  obtain⟨v,σ',H',J,rv,q⟩:=hs;exact fin J rv q
 | next=>
  obtain⟨σ',H',J,q⟩:=hs;exact fin (v:=V.non) (u:=Value.none) J rfl q
 | brk=>
  obtain⟨_,_,_,q⟩:=hs;exact False.elim q
 | cont=>
  obtain⟨_,_,_,q⟩:=hs;exact False.elim q
section
variable{X:Cx}{x:Str}{p pos:Pos}{e:Expr}{es:List Expr}{t:TA}{id T:String}{r:List V->Hp->VK->Prop}
def Ov(r:List V->Hp->VK->Prop)(t:TA):TE:=fun σ H Q=>t σ H fun vs H1=>r vs H1 Q
theorem QJ(hc:dG X (.builtin id) r)(hg:Gl X x)(hm:X.mg x=none)(hv:bootBuiltins x=some (.builtin id))(ha:PA X (e::es) t)(hn:(x ≠ "__name__")⁻¹)(hdb:((x==("__debug__" : Str))=false)⁻¹)
  (he: ~~~(starEach (e::es) X.env=(false,eval e X.env)::starEach es X.env)) (hpl: ~~~((backTo pos (starEach es X.env)).any (·.1)=false)):PE X (.Call (.Name x p) (e::es) [] pos) (Ov r t):=by
 symm;intro Q I h;refine vm (iw I hg hm hv ?_ hn hdb);exact PyProof.Rows.callWith_builtin1 (cz (ha pos ae s σ H _ I h) fun us s1 ⟨vs,H1,I1,r1,q1⟩=>hc ae s1 σ H1 vs us Q I1 r1 q1) he hpl
theorem M8(hc:dG X (.type T) r)(hg:Gl X x)(hm:X.mg x=none)(hv:bootBuiltins x=some (.type T))(ha:PA X (e::es) t)(hn:(x ≠ "__name__")⁻¹)(hdb:((x==("__debug__" : Str))=false)⁻¹)
  (he: ~~~(starEach (e::es) X.env=(false,eval e X.env)::starEach es X.env)) (hpl: ~~~((backTo pos (starEach es X.env)).any (·.1)=false)):PE X (.Call (.Name x p) (e::es) [] pos) (Ov r t):=by
 symm;intro Q I h;refine vm (iw I hg hm hv ?_ hn hdb);exact PyProof.Rows.callWith_type1 (cz (ha pos ae s σ H _ I h) fun us s1 ⟨vs,H1,I1,r1,q1⟩=>hc ae s1 σ H1 vs us Q I1 r1 q1) he hpl
end
end _L
namespace HT
open PySem PyProof.Rows
section
open PySem.SeqAt
open PySem.AutoSeq1 (wpAny_loadPart')
open PySem.MeetsSeq PySem.MeetsSeq2 PySem.MeetsSeq3
end
section
variable{prog:AC}{w:World}{A:Around}{E:AA->AB->Prop}{s:AB}
theorem Vl{t b:Addr}{vs ws:List AA}{Q:AA->AB->Prop}(ht:IsTup s.heap t vs.toArray)(hb:IsTup s.heap b ws.toArray)(hv:vs≠[])
  (h1:ws=[]->Q (.ref t) s) (h2:ws≠[]->Q (.ref s.heap.objs.size) { s with heap:=s.heap.push { cls:=.type "tuple",data:=.seq (vs++ws).toArray } })
  (hsz:vs.length+ws.length<=sizeLine):wpAny (model prog w) A (binaryOp .Add (.ref t) (.ref b)) Q E s:=by
 obtain⟨⟨cls,dd,data,sl⟩,ho,hc,n,hd⟩:=id ht;obtain⟨⟨cls2,dd2,data2,sl2⟩,ho2,hc2,n2,hd2⟩:=id hb;simp only at hc hd hc2 hd2;subst hc hd hc2 hd2;have e:vs.toArray++ws.toArray=(vs++ws).toArray:=by simp
 by_cases hw:ws=[]
 ·exact concat_meets ⟨_,ho,rfl⟩ ⟨_,ho2,rfl⟩ noFill_tuple_add seq_tuple_add PySem.F.slot_tuple_add PySem.F.entry_tuple_add (PySem.F.args_tuple_add_2 _ _)
   (tuple_addW1 t b vs.toArray ws.toArray n n2 dd dd2 sl sl2 (by simpa using hv) (by simp[hw])) ⟨ho,ho2,h1 hw⟩
 ·refine concat_meets ⟨_,ho,rfl⟩ ⟨_,ho2,rfl⟩ noFill_tuple_add seq_tuple_add PySem.F.slot_tuple_add PySem.F.entry_tuple_add (PySem.F.args_tuple_add_2 _ _)
   (tuple_addW2 t b vs.toArray ws.toArray n n2 dd dd2 sl sl2 (by simpa using hv) (by simpa using hw) (by rw[fC,fC]; exact hsz)) ⟨ho,ho2,?_⟩
  rw[e];exact h2 hw
def fM(n d:Nat):Option Int->Nat
 | none=>d
 | some v=>if v<0 then(v+(n:Int)).toNat else min v.toNat n
theorem Fp(n d:Nat):fM n d none=d:=rfl
theorem Km(n d k:Nat):fM n d (some (k:Int))=min k n:=by
 show(if(k:Int)<0 then((k:Int)+(n:Int)).toNat else min (k:Int).toNat n)=min k n
 rw[aX ∅,xF]
theorem Xg(n d:Nat)(hd:d<=n)(o:Option Int):fM n d o<=n:=by
 cases o with
 | none=>exact hd
 | some v=>
  show(if v<0 then(v+(n:Int)).toNat else min v.toNat n)<=n
  by_cases hv:v<0
  ·rw[bh hv]; omega
  ·rw[aX hv]; exact Nat.min_le_right _ _
theorem Lp(v:Int)(n d:Nat):(if v<0 then max (v+(n:Int)) 0 else min v (n:Int))=((fM n d (some v):Nat):Int):=by
 show(if v<0 then max (v+(n:Int)) 0 else min v (n:Int))=(((if v<0 then(v+(n:Int)).toNat else min v.toNat n):Nat):Int)
 by_cases hv:v<0
 ·simp only[bh hv]; omega
 ·simp only[aX hv]; omega
theorem JS(lo hi:Option Int)(n:Nat):Builtin.Slice.sliceAdjust lo hi 1 (n:Int)=(((fM n 0 lo:Nat):Int),((fM n n hi:Nat):Int)):=by
 have h1:¬((1:Int)<0):=by omega
 unfold Builtin.Slice.sliceAdjust;simp only[h1,if_false];refine Prod.ext ?_ ?_
 ·cases lo with
  | none=>rfl
  | some v=>exact Lp v n 0
 ·cases hi with
  | none=>rfl
  | some v=>exact Lp v n n
theorem Ja(i j:Nat):Builtin.Slice.slicePlaces (i:Int) (j:Int) 1=j-i:=by
 unfold Builtin.Slice.slicePlaces;have h1:(1:Int)>0:=by omega
 simp only[h1,if_true,Int.ediv_one];split <;> omega
theorem wQ{v:AA}{o:Option Int}{Q:Option Int->AB->Prop}(p:IsPart v o)(h:Q o s):wpAny (model prog w) A (Builtin.Slice.slicePartIndex v) Q E s:=by
 cases p with
 | none=>exact slicePart_none h
 | int i t=>exact slicePart_int h
theorem kj{sl:Addr}{vl vu:AA}{lo hi:Option Int}{n:Nat}{Q:Int×Int×Nat->AB->Prop}(hs:s.heap.IsSliceOf sl vl vu .none)(pl:IsPart vl lo)(pu:IsPart vu hi)
  (h:Q (((fM n 0 lo:Nat):Int),1,fM n n hi-fM n 0 lo) s):wpAny (model prog w) A (Builtin.Slice.sliceApplied (.ref sl) (pure (n:Int))) Q E s:=by
 obtain⟨os,hos,hcs,hds⟩:=id hs;unfold Builtin.Slice.sliceApplied Builtin.Slice.sliceFields;refine aN (aN (fP hos hds (x:=vl) rfl (aN (fP hos hds (x:=vu) rfl (aN (fP hos hds (x:=.none) rfl (bV ?_)))))));refine aN (slicePart_none ?_);show wpAny _ _ (if((1:Int)==0)=true then _ else _) _ _ s
 rw[aX ⋯]
 refine aN (wQ pl (aN (wQ pu (aN (bV ?_)))));show wpAny _ _ (match Builtin.Slice.sliceAdjust lo hi 1 (n:Int) with | (lo,hi)=>pure (lo,(1:Int),Builtin.Slice.slicePlaces lo hi 1)) _ _ s
 rw[JS lo hi n];show wpAny _ _ (pure (((fM n 0 lo:Nat):Int),(1:Int),Builtin.Slice.slicePlaces ((fM n 0 lo:Nat):Int) ((fM n n hi:Nat):Int) 1)) _ _ s;rw[Ja];exact bV h
theorem QF(xs:Array AA)(i k:Nat):((List.range k).filterMap fun(m:Nat)=>xs[((i:Int)+(m:Int)*1).toNat]?).toArray=((xs.toList.drop i).take k).toArray:=by
 have e:(fun(m:Nat)=>xs[((i:Int)+(m:Int)*1).toNat]?)=fun m=>xs[i+m]?:=by
  funext m
  have:((i:Int)+(m:Int)*1).toNat=i+m:=by omega
  rw[this]
 rw[e];have:=pick_run xs i k;rw[List.filterMap_map] at this;have e2:((fun x=>xs[x]?)∘fun x=>i+x)=fun m=>xs[i+m]?:=rfl;rw[e2] at this;rw[this]
theorem rT{t sl:Addr}{items:Array AA}{vl vu:AA}{lo hi:Option Int}{Q:AA->AB->Prop}(ht:IsTup s.heap t items)(hs:s.heap.IsSliceOf sl vl vu .none)(pl:IsPart vl lo)(pu:IsPart vu hi)
  (hw:¬(fM items.size 0 lo=0/\fM items.size items.size hi=items.size))
  (h:Q (.ref s.heap.objs.size) { s with heap:=s.heap.push { cls:=.type "tuple",data:=.seq ((items.toList.drop (fM items.size 0 lo)).take (fM items.size items.size hi-fM items.size 0 lo)).toArray } })
  (hsz:items.size<=sizeLine):wpAny (model prog w) A (getItem (.ref t) (.ref sl)) Q E s:=by
 have Lg:sizeOk (.seq ((items.toList.drop (fM items.size 0 lo)).take (fM items.size items.size hi-fM items.size 0 lo)).toArray):=by
  show((items.toList.drop (fM items.size 0 lo)).take (fM items.size items.size hi-fM items.size 0 lo)).toArray.size<=sizeLine;rw[fC,kI,Cp,Array.length_toList];omega
 have hj:fM items.size items.size hi<=items.size:=Xg _ _ (bw _) hi;obtain⟨os,hos,hcs,hds⟩:=id hs;have hTs:s.TypeIs (.ref sl) "slice" := ⟨os,hos,hcs⟩;unfold getItem
 try with_reducible refine pJ ?_
 first | refine aN (bV ?_) | skip
 refine aN (wpAny_sequenceKey ht.typeIs ⋯ ?_)
 refine aN (FT (name:=Str.ofString "__getitem__") ht.typeIs PyProof.Rows.slot_tuple_getitem
  (zb PyProof.Rows.slot_tuple_getitem ht.typeIs entry_tuple_getitem ?_ (args_tuple_getitem _ _)))
 show wpAny _ _ (Builtin.Tuple.tupleItemsOf (.ref t) >>= _) _ _ s;refine aN (tupleItemsOf_ ht ?_);refine aN (FZ hTs ?_);rw[bh ⋯]
 refine aN (kj hs pl pu ?_)
 have hno:¬((((fM items.size 0 lo:Nat):Int)==0&&(1:Int)==1&&(fM items.size items.size hi-fM items.size 0 lo)==items.size)=true):=by
  intro q;rw[Fx,Fx] at q;have q1:((fM items.size 0 lo:Nat):Int)=0:=eq_of_beq q.1.1;have q2:fM items.size items.size hi-fM items.size 0 lo=items.size:=eq_of_beq q.2;exact hw ⟨∅,∅⟩
 show wpAny _ _ (if(((fM items.size 0 lo:Nat):Int)==0&&(1:Int)==1&&(fM items.size items.size hi-fM items.size 0 lo)==items.size)=true then _ else _) _ _ s
 rw[aX hno,QF]
 first
  | exact aN (m:=Builtin.Tuple.tupleExact _) (xG (bV ⟨_,rfl,bV h⟩) Lg)
  | exact aN (m:=Builtin.Tuple.tupleExact _) (xG (aN (bV (bV ⟨_,rfl,bV h⟩))) Lg)
  | exact aN (aN (m:=Builtin.Tuple.tupleExact _) (xG (bV (bV ⟨_,rfl,bV h⟩)) Lg))
  | exact aN (aN (m:=Builtin.Tuple.tupleExact _) (xG (bV ⟨_,rfl,bV h⟩) Lg))
end
end HT
namespace _L
open PySem PySem.Spec PyProof.Rows
abbrev TO:=St->Hp->(Option Int->Hp->Prop)->Prop
structure PO(X:Cx)(e:Option Expr)(t:TO):Prop where
 mk ::
 go :
 ∀(ae:List (Addr×Obj))(s:AB)(σ:St)(H:Hp)(Q:Option Int->Hp->Prop),Inv X ae σ H s->t σ H Q ->
  wpAny (model X.prog X.w) X.A (evalPart e X.env) (fun u s'=>∃o H',Inv X ae σ H' s'/\IsPart u o/\Q o H') X.xe s
instance {X:Cx} {e:Option Expr} {t:TO}:CoeFun (PO X e t) (fun _=>
 ∀(ae:List (Addr×Obj))(s:AB)(σ:St)(H:Hp)(Q:Option Int->Hp->Prop),Inv X ae σ H s->t σ H Q ->
  wpAny (model X.prog X.w) X.A (evalPart e X.env) (fun u s'=>∃o H',Inv X ae σ H' s'/\IsPart u o/\Q o H') X.xe s):=⟨PO.go⟩
def jy:TO:=fun _ H Q=>Q none H
def uA(t:TE):TO:=fun σ H Q=>t σ H fun x H1=>∃i,x=.int i/\Q (some i) H1
section
variable{X:Cx}{e:Expr}{te:TE}{lo hi:Option Expr}{tl th:TO}{pos p2:Pos}
theorem eU:PO X none jy:=by
 symm;intro Q I h;rw[evalPart_none];exact bV ⟨none,H,I,.none,h⟩
theorem eQ(h:PE X e te):PO X (some e) (uA te):=by
 symm;intro Q I hw;rw[evalPart_some];refine cz (h ae s σ H _ I hw) fun u s1 qx=>?_;obtain⟨x,H1,I1,r1,q1⟩:=qx;obtain⟨i,rfl,q⟩:=q1;obtain⟨t,rfl⟩:=r1;exact⟨some i,H1,I1,.int i t,q⟩
structure YG(X:Cx)(r:V->Option Int->Option Int->Hp->VK->Prop):Prop where
 mk ::
 go :
 ∀(ae:List (Addr×Obj))(s:AB)(σ:St)(H:Hp)(x:V)(v vl vu:AA)(lo hi:Option Int)(sl:Addr)(Q:VK),Inv X ae σ H s->RelV x v->s.heap.IsSliceOf sl vl vu .none->IsPart vl lo->IsPart vu hi->r x lo hi H Q ->
  ∃T id,typeLookup (.type T) "__getitem__" = pure (some (.builtin id))/\s.TypeIs v T/\wpAny (model X.prog X.w) X.A (getItem v (.ref sl)) (EP X ae σ Q) X.xe s
instance {X:Cx} {r:V->Option Int->Option Int->Hp->VK->Prop}:CoeFun (YG X r) (fun _=>
 ∀(ae:List (Addr×Obj))(s:AB)(σ:St)(H:Hp)(x:V)(v vl vu:AA)(lo hi:Option Int)(sl:Addr)(Q:VK),Inv X ae σ H s->RelV x v->s.heap.IsSliceOf sl vl vu .none->IsPart vl lo->IsPart vu hi->r x lo hi H Q ->
  ∃T id,typeLookup (.type T) "__getitem__" = pure (some (.builtin id))/\s.TypeIs v T/\wpAny (model X.prog X.w) X.A (getItem v (.ref sl)) (EP X ae σ Q) X.xe s):=⟨YG.go⟩
def VJ(r:V->Option Int->Option Int->Hp->VK->Prop)(te:TE)(tl th:TO):TE:=fun σ H Q=>te σ H fun x H1=>tl σ H1 fun l H2=>th σ H2 fun u H3=>r x l u H3 Q
theorem cY{r:V->Option Int->Option Int->Hp->VK->Prop}(hr:YG X r)(he:PE X e te)(hl:PO X lo tl)(hu:PO X hi th):PE X (.Subscript e (.Slice lo hi none p2) pos) (VJ r te tl th):=by
 symm;intro Q I h;refine Subscript_ (cz (he ae s σ H _ I h) fun v s1 qx=>?_);obtain⟨x,H1,I1,r1,q1⟩:=qx;refine wpAny_Slice (cz (hl ae s1 σ H1 _ I1 q1) fun vl s2 ⟨l,H2,I2,pl,q2⟩=>cz (hu ae s2 σ H2 _ I2 q2) fun vu s3 qx=>?_);obtain⟨u,H3,I3,pu,q3⟩:=qx;rw[evalPart_none];refine bV ?_;have I4:Inv X ae σ H3 { s3 with heap:=s3.heap.push { cls:=.type "slice",data:=.fields #[vl,vu,.none] } }:=I3.kept (t':=s3.toks) fun b ob q=>fB _ q
 obtain⟨T,id,hT,ht,hg⟩:=hr ae { s3 with heap:=s3.heap.push { cls:=.type "slice",data:=.fields #[vl,vu,.none] } } σ H3 x v vl vu l u s3.heap.objs.size Q I4 r1 (Heap.IsSliceOf.new ..) pl pu q3
 show wpAny (model X.prog X.w) X.A (subscriptTail e (.Slice lo hi none p2) v (.ref s3.heap.objs.size)) (EP X ae σ Q) X.xe { s3 with heap:=s3.heap.push { cls:=.type "slice",data:=.fields #[vl,vu,.none] } }
 exact tail_any (ops:=[.ref s3.heap.objs.size,v]) ht hT hg (by with_unfolding_all rfl)
def vP(xs:List V)(lo hi:Option Int):List V:=(xs.drop (HT.fM xs.length 0 lo)).take (HT.fM xs.length xs.length hi-HT.fM xs.length 0 lo)
theorem uX(xs:List V)(lo hi:Option Int):(vP xs lo hi).length<=xs.length:=by
 unfold vP;rw[kI,Cp];omega
def adq(K:Frag):V->Option Int->Option Int->Hp->VK->Prop:=fun x lo hi H Q=>∃a xs,x=.ref a/\fK K H a xs /\
 ¬(HT.fM xs.length 0 lo=0/\HT.fM xs.length xs.length hi=xs.length)/\∀p,H p=none->Q (.ref p) (upd H p (.tup (vP xs lo hi)))
theorem Xf:YG X (adq X.K):=by
 symm;intro x v vl vu lo hi sl Q I rx hs pl pu h;obtain⟨a,xs,rfl,hx,hw,q⟩:=h;cases rx;obtain⟨its,r,ht,hz⟩:=I.tuple hx;have hlen:its.toArray.size=xs.length:=by rw[fC]; exact r.length.symm
 refine⟨"tuple",_,PyProof.Rows.slot_tuple_getitem.lookup,ht.typeIs,?_⟩;refine HT.rT ht hs pl pu (by rw[hlen]; exact hw) ?_ (by rw[hlen]; exact hz)
 rw[hlen];refine⟨.ref s.heap.objs.size,_,I.laid (t':=s.toks) (o:=.tup (vP xs lo hi)) (fun b ob q=>fB _ q) (bw _) ?_,rfl,q _ (I.hok.fresh (bw _))⟩;exact⟨iH (uX xs lo hi) hz,_,(r.drop (HT.fM xs.length 0 lo)).take (HT.fM xs.length xs.length hi-HT.fM xs.length 0 lo),IsTup.new _ _⟩
def aau(K:Frag):R2:=fun x y H Q=>∃a b xs ys,x=.ref a/\y=.ref b/\fK K H a xs/\fK K H b ys/\xs≠[]/\xs.length+ys.length<=sizeLine /\
 (ys=[]->Q (.ref a) H)/\(ys≠[]->∀p,H p=none->Q (.ref p) (upd H p (.tup (xs++ys))))
theorem Vals.De{xs:List V}{us:List AA}(r:Vals xs us):us=[]↔xs=[]:=by
 cases r with
 | nil=>simp
 | cons _ _=>simp
theorem Ul:m7 X (binaryOp .Add) (aau X.K):=by
 symm;intro x y v u Q I rx ry h;obtain⟨a,b,xs,ys,rfl,rfl,ha,hb,hx,hz,q1,q2⟩:=h;cases rx;cases ry;obtain⟨its,r1,p1,_⟩:=I.tuple ha;obtain⟨its2,r2,p2,_⟩:=I.tuple hb;refine HT.Vl p1 p2 (fun z=>hx (r1.De.mp z)) (fun z=>⟨.ref a,H,I,rfl,q1 (r2.De.mp z)⟩) (fun z=>?_) (by rw[<- r1.length,<- r2.length]; exact hz)
 refine⟨.ref s.heap.objs.size,_,I.laid (t':=s.toks) (o:=.tup (xs++ys)) (fun b ob q=>fB _ q) (bw _) ?_,rfl,q2 (fun w=>z (r2.De.mpr w)) _ (I.hok.fresh (bw _))⟩;exact⟨by rw[cC]; exact hz,_,r1.append r2,IsTup.new _ _⟩
end
def Q5(n:Nat)(i:Int):Option Nat:=if 0<=i then(if i<n then some i.toNat else none) else if -(n:Int)<=i then some (i+n).toNat else none
def yN{α:Type}(xs:List α)(i:Int):Option α:=(Q5 xs.length i).bind fun j=>xs[j]?
theorem Le{n:Nat}{i:Int}{j:Nat}(h:Q5 n i=some j):seqIndex? i n=some j/\j<n/\-(n:Int)<=i/\i<n:=by
 unfold Q5 at h;by_cases h0:0<=i
 ·rw[bh h0] at h;by_cases h1:i<n
  ·rw[bh h1] at h;have e:i.toNat=j:=Option.some.inj h;exact⟨by rw[seqIndex_of h0 h1,e],∅,∅,h1⟩
  ·rw[aX h1] at h; cases h
 ·rw[aX h0] at h;by_cases h1:-(n:Int)<=i
  ·rw[bh h1] at h;have e:(i+n).toNat=j:=Option.some.inj h;exact⟨by rw[seqIndex_neg ∅ h1,e],∅,h1,∅⟩
  ·rw[aX h1] at h; cases h
theorem D_{α:Type}{xs:List α}{i:Int}{v:α}(h:yN xs i=some v):∃j,seqIndex? i xs.length=some j/\xs[j]?=some v/\j<xs.length/\-(xs.length:Int)<=i/\i<xs.length:=by
 unfold yN at h;cases e:Q5 xs.length i with
 | none=>rw[e] at h; cases h
 | some j=>
  rw[e] at h;obtain⟨h1,h2,h3,h4⟩:=Le e;exact⟨j,h1,h,h2,h3,h4⟩
theorem a_{α:Type}{xs:List α}{j:Nat}{v:α}(h:xs[j]?=some v):yN xs (j:Int)=some v:=by
 have hj:j<xs.length:=(jF.mp h).1
 have e:Q5 xs.length (j:Int)=some j:=by
  unfold Q5;rw[bh ∅,bh ∅]; simp
 unfold yN; rw[e]; exact h
theorem Ho{α:Type}(xs:List α)(v:α):yN (xs++[v]) (-1)=some v:=by
 have hl:(xs++[v]).length=xs.length+1:=by simp
 have e:Q5 (xs++[v]).length (-1)=some xs.length:=by
  unfold Q5;rw[hl,aX ⋯,bh ∅]
  congr 1
  omega
 unfold yN;rw[e];show(xs++[v])[xs.length]?=some v;simp
def Vx(b:Expr):Prop:=∀o i,subscripted b false o i=operate [o,i] (getItem o i)
structure OD(X:Cx)(r:R2):Prop where
 mk ::
 go :
 ∀(value slice:Expr)(ae:List (Addr×Obj))(s:AB)(σ:St)(H:Hp)(x y:V)(v u:AA)(Q:VK),Inv X ae σ H s->RelV x v->RelV y u->r x y H Q ->
  subscripted slice false v u=operate [v,u] (getItem v u)->wpAny (model X.prog X.w) X.A (subscriptTail value slice v u) (EP X ae σ Q) X.xe s
instance {X:Cx} {r:R2}:CoeFun (OD X r) (fun _=>
 ∀(value slice:Expr)(ae:List (Addr×Obj))(s:AB)(σ:St)(H:Hp)(x y:V)(v u:AA)(Q:VK),Inv X ae σ H s->RelV x v->RelV y u->r x y H Q ->
  subscripted slice false v u=operate [v,u] (getItem v u)->wpAny (model X.prog X.w) X.A (subscriptTail value slice v u) (EP X ae σ Q) X.xe s):=⟨OD.go⟩
def MtR(X:Cx)(id:String)(r:V->List V->Hp->VK->Prop):Prop:=
 ∀(ae:List (Addr×Obj))(s:AB)(σ:St)(H:Hp)(x:V)(xs:List V)(v:AA)(us:List AA)(Q:VK),Inv X ae σ H s->RelV x v->Vals xs us->r x xs H Q ->
  wpAny (model X.prog X.w) X.A (call (.builtin id) (v::us)) (EP X ae σ Q) X.xe s
section
variable{X:Cx}{a b:Expr}{ta tb:TE}{pos:Pos}
theorem OD.or{r r':R2}(h:OD X r)(h':OD X r'):OD X (fun x y H Q=>r x y H Q\/r' x y H Q):=by
 refine .mk ?_;intro value slice ae s σ H x y v u Q I rx ry q hs;rcases q with q | q
 ·exact h value slice ae s σ H x y v u Q I rx ry q hs
 ·exact h' value slice ae s σ H x y v u Q I rx ry q hs
theorem aU{r:R2}(hr:OD X r)(ha:PE X a ta)(hb:PE X b tb)(hs:Vx b):PE X (.Subscript a b pos) (Ia r ta tb):=by
 symm;intro Q I h;exact Subscript_ (Yz ha hb I h fun v u s2 x y H2 I2 rx ry q=>hr a b ae s2 σ H2 x y v u Q I2 rx ry q (hs _ _))
def adz(K:Frag):R2:=fun x y H Q=>∃p xs i v,x=.ref p/\y=.int i/\bT K H p xs/\yN xs i=some v/\Q v H
def ady(K:Frag):R2:=fun x y H Q=>∃p xs i v,x=.ref p/\y=.int i/\fK K H p xs/\yN xs i=some v/\Q v H
def aar:R2:=fun x y H Q=>∃z i c,x=.str z/\y=.int i/\z.length<=sizeLine/\yN z.cps.toList i=some c/\Q (.str ⟨#[c]⟩) H
theorem Ld:OD X (adz X.K):=by
 refine .mk ?_;intro value slice ae s σ H x y v u Q I rx ry h hs;obtain⟨p,xs,i,z,rfl,rfl,hq,he,q⟩:=h;cases rx;obtain⟨t,rfl⟩:=ry;obtain⟨its,r,pl,hz⟩:=I.list hq;obtain⟨j,h1,h2,h3,h4,h5⟩:=D_ he;obtain⟨w,ew,yU⟩:=r.get h2;have hl:=r.length;have hn:=qK;have fin:EP X ae σ Q w s:=⟨z,H,I,yU,q⟩;by_cases h0:0<=i
 ·have hj:i.toNat=j:=by
   rw[seqIndex_of h0 h5] at h1;exact Option.some.inj h1
  exact item_listR pl.isList h0 ∅ (by rw[hj]; simpa using ew) fin hs
 ·have hj:(i+(its.toArray.size:Int)).toNat=j:=by
   rw[seqIndex_neg ∅ h4] at h1
   rw[fC,<- hl];exact Option.some.inj h1
  exact subscriptTail_builtinR (x:=w) pl.isList.typeIs slot_list_getitem.lookup
   (wpAny_getItem_list_neg (Q:=fun r s'=>r=w/\EP X ae σ Q r s') pl.isList ∅ (by rw[fC] <;> omega) ∅ (by rw[hj]; simpa using ew) ⟨rfl,fin⟩) hs
theorem X_:OD X (ady X.K):=by
 refine .mk ?_;intro value slice ae s σ H x y v u Q I rx ry h hs;obtain⟨p,xs,i,z,rfl,rfl,hq,he,q⟩:=h;cases rx;obtain⟨t,rfl⟩:=ry;obtain⟨its,r,pl,hz⟩:=I.tuple hq;obtain⟨j,h1,h2,h3,h4,h5⟩:=D_ he;obtain⟨w,ew,yU⟩:=r.get h2;have hl:=r.length;have hn:=qK;have fin:EP X ae σ Q w s:=⟨z,H,I,yU,q⟩;exact subscriptTail_builtinR (x:=w) pl.typeIs slot_tuple_getitem.lookup
  (getItem_tuple (j:=j) (Q:=fun r s'=>r=w/\EP X ae σ Q r s') pl ∅ ∅ (by rw[fC,<- hl]; exact h1) (by simpa using ew) ⟨rfl,fin⟩) hs
theorem Jv:OD X aar:=by
 refine .mk ?_;intro value slice ae s σ H x y v u Q I rx ry h hs;obtain⟨z,i,c,rfl,rfl,hz,he,q⟩:=h;obtain⟨t,rfl⟩:=rx;obtain⟨t',rfl⟩:=ry;obtain⟨j,h1,h2,h3,h4,h5⟩:=D_ he;have hl:z.cps.toList.length=z.length:=by simp[Str.length]
 rw[hl] at h1 h4 h5;have hn:=qK
 exact tail_any (typeIs_str s z t) slot_str_getitem.lookup (getItem_str (c:=c) (by
  have e1:decide (i < -(2 ^ 63:Int))=false:=mY ∅
  have e2:decide (i≥2 ^ 63)=false:=mY ∅
  rw[e1,e2,Bool.or_false]) (by rw[h1]; simpa using h2) ⟨.str ⟨#[c]⟩,H,I.tok _,⟨_,rfl⟩,q⟩) hs
theorem Jq(its:List AA)(n j:Nat)(u:AA):Obj.mapSeq (·.setIfInBounds j u) { cls:=.type "list",data:=.seq its.toArray n }={ cls:=.type "list",data:=.seq (its.set j u).toArray n }:=by
 simp[Obj.mapSeq]
theorem Inv.lst{ae:List (Addr×Obj)}{σ:St}{H:Hp}{s:AB}{p:Addr}{xs:List V}(I:Inv X ae σ H s)(h:H p=some (.lst xs)) :
  ∃(its:List AA)(n:Nat),Vals xs its/\s.heap.get? p=some { cls:=.type "list",data:=.seq its.toArray n }/\xs.length<=sizeLine:=by
 obtain⟨z,its,n,r,e⟩:=I.hok p _ h;exact⟨its,n,r,e,z⟩
theorem Inv.XR{ae:List (Addr×Obj)}{σ:St}{H:Hp}{s:AB}{p:Addr}{xs ys:List V}{its its':List AA}{n n':Nat}{f:Obj->Obj}(I:Inv X ae σ H s)(h:H p=some (.lst xs))
  (ho:s.heap.get? p=some { cls:=.type "list",data:=.seq its.toArray n }) (hf:f { cls:=.type "list",data:=.seq its.toArray n }={ cls:=.type "list",data:=.seq its'.toArray n' }) (r:Vals ys its') (hz:ys.length<=sizeLine) (t:Nat) :
  Inv X ae σ (upd H p (.lst ys)) { s with heap:=s.heap.update p f,toks:=t }:=by
 have e:(s.heap.update p f).get? p=some { cls:=.type "list",data:=.seq its'.toArray n' }:=by
  rw[M4 f ho (by rw[hf] <;> rfl),hf]
 refine I.write (x:=p) (e:=p) (by rw[h]; trivial) (.inl rfl) (fun b u hb q=>(zg _ _ (Ne.symm hb)).trans q) ⟨_,e⟩ ?_
 exact⟨hz,its',n',r,e⟩
def aap:V->V->V->Hp->(Hp->Prop)->Prop:=fun o i v H Q=>∃p xs k j,o=.ref p/\i=.int k/\H p=some (.lst xs)/\Q5 xs.length k=some j/\Q (upd H p (.lst (xs.set j v)))
theorem set_list:Oo X aap:=by
 symm;intro o i v ov iv u Q I ro ri rv h;obtain⟨p,xs,k,j,rfl,rfl,hp,hj,q⟩:=h;cases ro;obtain⟨t,rfl⟩:=ri;obtain⟨its,n,r,ho,hz⟩:=I.lst hp;obtain⟨h1,h2,h3,h4⟩:=Le hj;have hl:=r.length;have hn:=qK
 have I':Inv X ae σ (upd H p (.lst (xs.set j v))) { s with heap:=s.heap.update p (Obj.mapSeq (·.setIfInBounds j u)) }:=
  I.XR hp ho (Jq its n j u) (r.set rv j) (by rw[List.length_set]; exact hz) s.toks
 by_cases h0:0<=k
 ·have hk:k.toNat=j:=by
   rw[seqIndex_of h0 h4] at h1;exact Option.some.inj h1
  exact PySem.W.ki_setAt ho h0 ∅ (by rw[fC,<- hl]; exact h4) (by rw[hk]; exact⟨_,I',q⟩)
 ·have hk:(k+(its.toArray.size:Int)).toNat=j:=by
   rw[seqIndex_neg ∅ h3] at h1
   rw[fC,<- hl];exact Option.some.inj h1
  exact PySem.W.ki_setBack ho ∅ (by rw[fC,<- hl]; exact h3) ∅ (by rw[hk]; exact⟨_,I',q⟩)
theorem Cd(lo hi:Option Int)(n:Nat):(sliceBounds lo hi none n).1=((HT.fM n 0 lo:Nat):Int)/\(sliceBounds lo hi none n).2.1=((HT.fM n n hi:Nat):Int)/\(sliceBounds lo hi none n).2.2=1:=by
 refine⟨?_,?_,rfl⟩
 ·cases lo with
  | none=>simp[sliceBounds,HT.fM]
  | some i=>
   simp only[sliceBounds,HT.fM,Option.getD_none,show(1:Int)>0 by decide,if_true]
   by_cases h:i<0
   ·simp only[h,if_true] <;> omega
   ·simp only[h,if_false] <;> omega
 ·cases hi with
  | none=>simp[sliceBounds,HT.fM]
  | some i=>
   simp only[sliceBounds,HT.fM,Option.getD_none,show(1:Int)>0 by decide,if_true]
   by_cases h:i<0
   ·simp only[h,if_true] <;> omega
   ·simp only[h,if_false] <;> omega
theorem yS(its:List AA)(lo hi:Option Int):slicePick its.toArray lo hi none=((its.drop (HT.fM its.length 0 lo)).take (HT.fM its.length its.length hi-HT.fM its.length 0 lo)).toArray:=by
 obtain⟨h1,h2,h3⟩:=Cd lo hi its.toArray.size;unfold slicePick;rw[h1,h2,h3];simp only[sliceRange_one,pick_run,fC] <;> rfl
def adu(K:Frag):V->Option Int->Option Int->Hp->VK->Prop:=fun x lo hi H Q=>∃a xs,x=.ref a/\bT K H a xs/\∀p,H p=none->Q (.ref p) (upd H p (.lst (vP xs lo hi)))
theorem Ce:YG X (adu X.K):=by
 symm;intro x v vl vu lo hi sl Q I rx hs pl pu h;obtain⟨a,xs,rfl,hx,q⟩:=h;cases rx;obtain⟨its,r,ht,hz⟩:=I.list hx;have hlen:=r.length;refine⟨"list",_,slot_list_getitem.lookup,ht.isList.typeIs,?_⟩;refine wpAny_getItem_list_slice ht.isList hs pl pu .none (by simp) ?_ (by rw[fC] <;> omega)
 rw[yS,<- hlen];refine⟨.ref s.heap.objs.size,_,I.laid (t':=s.toks) (o:=.lst (vP xs lo hi)) (fun b ob q=>fB _ q) (bw _) ?_,rfl,q _ (I.hok.fresh (bw _))⟩;exact⟨iH (uX xs lo hi) hz,_,0,(r.drop (HT.fM xs.length 0 lo)).take (HT.fM xs.length xs.length hi-HT.fM xs.length 0 lo),cO _ rfl⟩
def rZ:V->Bool
 | .non=>true
 | .bl _=>true
 | .int _=>true
 | .str _=>true
 | _=>false
def Sw:V->V->Bool
 | .non,.non=>true
 | .bl a,.bl b=>a==b
 | .bl a,.int b=>(if a then 1 else 0)==b
 | .int a,.bl b=>a==(if b then 1 else 0)
 | .int a,.int b=>a==b
 | .str a,.str b=>a==b
 | _,_=>false
theorem Yo{A:Around}{s:AB}{y x:V}{u v:AA}(ry:RelV y u)(rx:RelV x v)(fy:rZ y=true)(fx:rZ x=true):SeqAt.EqAt A s u v (Sw y x):=by
 cases y with
 | non=>
  cases ry;cases x with
  | non=>cases rx; exact SeqAt.EqAt.same _
  | bl b=>cases rx; exact SeqAt.EqAt.none_bool b
  | int b=>obtain⟨t,rfl⟩:=rx; exact SeqAt.EqAt.none_int b t
  | str b=>obtain⟨t,rfl⟩:=rx; exact SeqAt.EqAt.none_str b t
  | _=>exact absurd (show false=true from fx) ju
 | bl a=>
  cases ry;cases x with
  | non=>cases rx; exact SeqAt.EqAt.bool_none a
  | bl b=>cases rx; exact SeqAt.EqAt.bool_bool a b
  | int b=>obtain⟨t,rfl⟩:=rx; exact SeqAt.EqAt.bool_int a b t
  | str b=>obtain⟨t,rfl⟩:=rx; exact SeqAt.EqAt.bool_str a b t
  | _=>exact absurd (show false=true from fx) ju
 | int a=>
  obtain⟨t',rfl⟩:=ry;cases x with
  | non=>cases rx; exact SeqAt.EqAt.int_none a t'
  | bl b=>cases rx; exact SeqAt.EqAt.int_bool a t' b
  | int b=>obtain⟨t,rfl⟩:=rx; exact SeqAt.EqAt.int_int a t' b t
  | str b=>obtain⟨t,rfl⟩:=rx; exact SeqAt.EqAt.int_str a t' b t
  | _=>exact absurd (show false=true from fx) ju
 | str a=>
  obtain⟨t',rfl⟩:=ry;cases x with
  | non=>cases rx; exact SeqAt.EqAt.str_none a t'
  | bl b=>cases rx; exact SeqAt.EqAt.str_bool a t' b
  | int b=>obtain⟨t,rfl⟩:=rx; exact SeqAt.EqAt.str_int a t' b t
  | str b=>obtain⟨t,rfl⟩:=rx; exact SeqAt.EqAt.str_str a t' b t
  | _=>exact absurd (show false=true from fx) ju
 | _=>exact absurd (show false=true from fy) ju
def JF(x:V)(u:AA):Bool:=match u with
 | .none=>Sw .non x
 | .bool b=>Sw (.bl b) x
 | .int i _=>Sw (.int i) x
 | .str z _=>Sw (.str z) x
 | _=>false
theorem Rv{x y:V}{u:AA}(r:RelV y u)(f:rZ y=true):JF x u=Sw y x:=by
 cases y with
 | non=>cases r; rfl
 | bl b=>cases r; rfl
 | int i=>obtain⟨t,rfl⟩:=r; rfl
 | str z=>obtain⟨t,rfl⟩:=r; rfl
 | _=>exact absurd (show false=true from f) ju
theorem sV{x:V}:∀{xs:List V}{us:List AA},Vals xs us->xs.all rZ=true->us.any (JF x)=xs.any fun y=>Sw y x
 | _,_,.nil,_=>rfl
 | y::xs,u::us,.cons r t,f=>by
  rw[List.all_cons,Fx] at f;rw[xK,xK,Rv r f.1,sV t f.2]
theorem oH{A:Around}{s:AB}{x:V}{v:AA}(rx:RelV x v)(fx:rZ x=true):∀{xs:List V}{us:List AA},Vals xs us->xs.all rZ=true->∀u∈us,SeqAt.EqAt A s u v (JF x u)
 | _,_,.nil,_=>fun u hu=>by cases hu
 | y::xs,u::us,.cons r t,f=>fun u' hu=>by
  rw[List.all_cons,Fx] at f;rcases bB.mp hu with rfl | hu
  ·rw[Rv r f.1]; exact Yo r rx f.1 fx
  ·exact oH rx fx t f.2 u' hu
def inV(x:V)(xs:List V):Bool:=xs.any fun y=>Sw y x
def rIn(K:Frag)(neg:Bool):R2:=fun x y H Q=>∃p xs,y=.ref p/\(bT K H p xs\/fK K H p xs)/\rZ x=true/\xs.all rZ=true/\Q (.bl (if neg then !inV x xs else inV x xs)) H
theorem Nf:m7 X (compareOp .In) (rIn X.K false):=by
 symm;intro x y v u Q I rx ry h;obtain⟨p,xs,rfl,hq,fx,fs,q⟩:=h;cases ry;rcases hq with hq | hq
 ·obtain⟨its,r,pl,hz⟩:=I.list hq;refine SeqAt.in_listAt (JF x) pl.isList (fun w hw=>oH rx fx r fs w (by simpa using hw)) ⟨.bl _,H,I,rfl,?_⟩
  rw[show its.toArray.any (JF x)=its.any (JF x) by simp,sV r fs]
  exact q
 ·obtain⟨its,r,pl,hz⟩:=I.tuple hq;refine SeqAt.in_tupleAt (JF x) pl (fun w hw=>oH rx fx r fs w (by simpa using hw)) ⟨.bl _,H,I,rfl,?_⟩
  rw[show its.toArray.any (JF x)=its.any (JF x) by simp,sV r fs]
  exact q
theorem CZ:m7 X (compareOp .NotIn) (rIn X.K true):=by
 symm;intro x y v u Q I rx ry h;obtain⟨p,xs,rfl,hq,fx,fs,q⟩:=h;cases ry;rcases hq with hq | hq
 ·obtain⟨its,r,pl,hz⟩:=I.list hq;refine SeqAt.notIn_listAt (JF x) pl.isList (fun w hw=>oH rx fx r fs w (by simpa using hw)) ⟨.bl _,H,I,rfl,?_⟩
  rw[show its.toArray.any (JF x)=its.any (JF x) by simp,sV r fs]
  exact q
 ·obtain⟨its,r,pl,hz⟩:=I.tuple hq;refine SeqAt.notIn_tupleAt (JF x) pl (fun w hw=>oH rx fx r fs w (by simpa using hw)) ⟨.bl _,H,I,rfl,?_⟩
  rw[show its.toArray.any (JF x)=its.any (JF x) by simp,sV r fs]
  exact q
theorem DN:dG X (.builtin "len") (fun xs H Q=>∃p ys,xs=[.ref p]/\(bT X.K H p ys\/fK X.K H p ys)/\Q (.int ys.length) H):=by
 symm;intro xs us Q I r h;obtain⟨p,ys,rfl,hq,q⟩:=h;obtain⟨u,rfl,rx⟩:=vals1 r;cases rx;have hn:=qK;rcases hq with hq | hq
 ·obtain⟨its,r',pl,hz⟩:=I.list hq;have hlen:=r'.length;exact Calls.call_len_list pl.isList (by simp only[fC] <;> omega) ⟨.int ys.length,H,I.tok _,⟨s.toks+1,by rw[fC,hlen]⟩,q⟩
 ·obtain⟨its,r',pl,hz⟩:=I.tuple hq;have hlen:=r'.length;exact len_tuple pl (by simp only[fC] <;> omega) ⟨.int ys.length,H,I.tok _,⟨s.toks+1,by rw[fC,hlen]⟩,q⟩
theorem sH:dG X (.builtin "len") (fun xs H Q=>∃z,xs=[.str z]/\z.length<=sizeLine/\Q (.int z.length) H):=by
 symm;intro xs us Q I r h;obtain⟨z,rfl,hz,q⟩:=h;obtain⟨u,rfl,t,rfl⟩:=vals1 r;have hn:=qK;exact len_str ∅ ⟨.int z.length,H,I.tok _,⟨_,rfl⟩,q⟩
theorem sE:dG X (.type "list") (fun xs H Q=>∃p ys,xs=[.ref p]/\(bT X.K H p ys\/fK X.K H p ys)/\∀l,H l=none->Q (.ref l) (upd H l (.lst ys))):=by
 symm;intro xs us Q I r h;obtain⟨p,ys,rfl,hq,q⟩:=h;obtain⟨u,rfl,rx⟩:=vals1 r;cases rx;have fin:∀(its:List AA),Vals ys its->ys.length<=sizeLine->∀(h':Heap)(c':Nat),(∀b o',s.heap.get? b=some o'->h'.get? b=some o') ->
   h'.get? s.heap.objs.size=some { cls:=.type "list",dict:=none,data:=.seq its.toArray c',slots:=#[] }->EP X ae σ Q (.ref s.heap.objs.size) { s with heap:=h' }:=fun its r' hz h' c' kp e=>
  ⟨.ref s.heap.objs.size,_,I.laid (t':=s.toks) kp (bw _) (show b_ X.prog X.w _ h' _ (.lst ys) from⟨hz,its,c',r',e⟩),rfl,q _ (I.hok.fresh (bw _))⟩
 rcases hq with hq | hq
 ·obtain⟨its,r',pl,hz⟩:=I.list hq;have hlen:=r'.length;obtain⟨o,ho,hc,n,hd⟩:=pl.isList;exact call_list_seq p (.inl rfl) ho hc hd (fun h' c' kp e=>fin its r' hz h' c' kp e) (by simp only[fC] <;> omega)
 ·obtain⟨its,r',pl,hz⟩:=I.tuple hq;have hlen:=r'.length;obtain⟨o,ho,hc,n,hd⟩:=pl;exact call_list_seq p (.inr rfl) ho hc hd (fun h' c' kp e=>fin its r' hz h' c' kp e) (by simp only[fC] <;> omega)
theorem zT:dG X (.type "tuple") (fun xs H Q=>∃p ys,xs=[.ref p]/\((bT X.K H p ys/\∀l,H l=none->Q (.ref l) (upd H l (.tup ys)))\/(fK X.K H p ys/\Q (.ref p) H))):=by
 symm;intro xs us Q I r h;obtain⟨p,ys,rfl,h⟩:=h;obtain⟨u,rfl,rx⟩:=vals1 r;cases rx;rcases h with⟨hq,q⟩ | ⟨hq,q⟩
 ·obtain⟨its,r',pl,hz⟩:=I.list hq;have hlen:=r'.length;refine call_tuple_list pl.isList (fun h' kp=>?_) (by simp only[fC] <;> omega)
  have I1:Inv X ae σ H { s with heap:=h' }:=I.kept (t':=s.toks) kp
  have I2:Inv X ae σ (upd H h'.objs.size (.tup ys)) { s with heap:=h'.push { cls:=.type "tuple",data:=.seq its.toArray } }:=
   I1.laid (t':=s.toks) (fun b o e=>fB _ e) (bw _) (show b_ X.prog X.w _ _ _ (.tup ys) from⟨hz,its,r',IsTup.new _ _⟩)
  exact⟨.ref h'.objs.size,_,I2,rfl,q _ (I1.hok.fresh (bw _))⟩
 ·obtain⟨its,r',pl,hz⟩:=I.tuple hq;exact call_tuple_same pl ⟨.ref p,H,I,rfl,q⟩
def tyV(K:Frag)(T:String)(x:V)(H:Hp):Prop:=match x with
 | .str _=>T = "str"
 | .int _=>T = "int"
 | .ref p=>(T = "list" /\ ∃xs,bT K H p xs)\/(T = "tuple" /\ ∃o,K.lookup p=some o/\o.cls=.type "tuple" /\ o.dict=none) \/
   (T = "dict" /\ ((∃kvs,H p=some (.dK kvs))\/∃kvs,H p=some (.dT kvs)))\/(T = "set" /\ ∃S n,H p=some (.set S n))
 | _=>False
theorem Pj{ae:List (Addr×Obj)}{σ:St}{H:Hp}{s:AB}{T:String}{x:V}{v:AA}(I:Inv X ae σ H s)(r:RelV x v)(ty:tyV X.K T x H) :
  s.TypeIs v T/\∀a,v=.ref a->∃ob,s.heap.get? a=some ob/\ob.dict=none:=by
 cases x with
 | str z=>
  obtain⟨t,rfl⟩:=r;cases(show T = "str" from ty);exact⟨typeIs_str s z t,fun _ e=>nomatch e⟩
 | int i=>
  obtain⟨t,rfl⟩:=r;cases(show T = "int" from ty);exact⟨typeIs_int s i t,fun _ e=>nomatch e⟩
 | ref p=>
  cases r;rcases ty with⟨rfl,xs,hq⟩ | ⟨rfl,o,hk,hc,hd⟩ | ⟨rfl,hk⟩ | ⟨rfl,S,n,hk⟩
  ·obtain⟨its,_,pl,_⟩:=I.list hq;refine⟨pl.isList.typeIs,fun a e=>?_⟩;cases e;obtain⟨o,n,e,c,hd,_⟩:=pl;exact⟨o,e,hd⟩
  ·refine⟨⟨o,I.vK p o hk,hc⟩,fun a e=>?_⟩;cases e;exact⟨o,I.vK _ o hk,hd⟩
  ·have z:∃o,s.heap.get? p=some o/\o.ExactDict:=by
    rcases hk with⟨kvs,hk⟩ | ⟨kvs,hk⟩
    ·obtain⟨_,_,_,_,o,_,_,e,ex,_⟩:=I.hok p _ hk;exact⟨o,e,ex⟩
    ·obtain⟨_,_,_,_,o,_,_,e,ex,_⟩:=I.hok p _ hk;exact⟨o,e,ex⟩
   obtain⟨o,e,ex⟩:=z;refine⟨⟨o,e,ex.1⟩,fun a e2=>?_⟩;cases e2;exact⟨o,e,ex.2.1⟩
  ·obtain⟨o,_,_,_,e,ex,_⟩:=I.hok p _ hk;refine⟨⟨o,e,ex.1⟩,fun a e2=>?_⟩;cases e2;exact⟨o,e,ex.2.1⟩
 | _=>exact False.elim ty
def Mz(K:Frag)(T:String)(r:V->List V->Hp->VK->Prop)(to:TE):TE:=fun σ H Q=>to σ H fun x H1=>tyV K T x H1/\r x [] H1 Q
def Tt(K:Frag)(T:String)(r:V->List V->Hp->VK->Prop)(to:TE)(t:TA):TE:=fun σ H Q=>to σ H fun x H1=>tyV K T x H1/\t σ H1 fun xs H2=>r x xs H2 Q
variable{o e:Expr}{es:List Expr}{to:TE}{t:TA}{name:Str}{apos cpos:Pos}{T id:String}{r:V->List V->Hp->VK->Prop}
theorem QK(pa:PlainAttrs T)(slot:Slot T name id)(hty:typeOf (.builtin id)=pure (.type "method_descriptor"))(hm:MtR X id r)(ho:PE X o to)(ha:PA X (e::es) t)
  (hbase: ~~~(attributeBase o name X.env (eval o X.env)=eval o X.env))
  (hfew: ~~~(((backTo cpos (starEach (e::es) X.env)).all (fun x=>!x.1)&&(backToKw cpos (keywordEach [] X.env)).all (fun x=>x.1.isSome)
   && decide ((e::es).length+([]:List Keyword).length+(if([]:List Keyword).isEmpty then 0 else 1)<30))=true))
  (hline: ~~~((apos.endLine==cpos.line)=true)) (hs: ~~~(starEach (e::es) X.env=(false,eval e X.env)::starEach es X.env)) (hplain: ~~~((backTo cpos (starEach es X.env)).any (·.1)=false)) :
  PE X (.Call (.Attribute o name apos) (e::es) [] cpos) (Tt X.K T r to t):=by
 symm;intro Q I h;refine wpAny_Call_method_late hbase hfew hline rfl (cz (ho ae s σ H _ I h) fun v s1 qx=>?_);obtain⟨x,H1,I1,r1,ty,q1⟩:=qx;obtain⟨h1,h2⟩:=Pj I1 r1 ty;refine⟨T,id,pa,slot,hty,h1,h2,?_⟩;have hA:=ha cpos ae s1 σ H1 _ I1 q1;rw[hs] at hA ⊢;refine Calls.callWith_builtin (by show(false || (backTo cpos (starEach es X.env)).any (·.1))=false; rw[hplain] <;> rfl) (Calls.evalArgs_plain ?_)
 exact cz hA fun us s2 ⟨vs,H2,I2,r2,q2⟩=>hm ae s2 σ H2 x vs v us Q I2 r1 r2 q2
end
def MtM(X:Cx)(id:String)(r:V->List V->Hp->VK->Prop):Prop:=
 ∀(ae:List (Addr×Obj))(s:AB)(σ:St)(H:Hp)(x:V)(xs:List V)(v:AA)(us:List AA)(Q:VK),Inv X ae σ H s->RelV x v->Vals xs us->r x xs H Q ->
  wpAny (model X.prog X.w) X.A (call (.builtin id) (v::us)) (EP X ae σ Q) X.xe s
theorem Vals.un{x:V}{xs:List V}{us:List AA}(h:Vals (x::xs) us):∃u r,us=u::r/\RelV x u/\Vals xs r:=by
 cases h with
 | cons r t=>exact⟨_,_,rfl,r,t⟩
theorem Vals.no{us:List AA}(h:Vals [] us):us=[]:=by
 cases h;rfl
theorem Vals.one{x:V}{us:List AA}(h:Vals [x] us):∃u,us=[u]/\RelV x u:=by
 obtain⟨u,r,rfl,h1,h⟩:=h.un;cases h.no;exact⟨u,rfl,h1⟩
theorem Vals.two{x y:V}{us:List AA}(h:Vals [x,y] us):∃u v,us=[u,v]/\RelV x u/\RelV y v:=by
 obtain⟨u,r,rfl,h1,h⟩:=h.un;obtain⟨v,rfl,h2⟩:=h.one;exact⟨u,v,rfl,h1,h2⟩
theorem Vals.rep{xs:List V}{us:List AA}(h:Vals xs us):∀k:Nat,Vals (List.replicate k xs).flatten (List.replicate k us).flatten
 | 0=>.nil
 | k+1=>by
  rw[Cv,Cv,IV,IV];exact Vals.append h (Vals.rep h k)
theorem foldl_rep(its:List AA):∀(k:Nat)(acc:List AA),
  List.foldl (fun x1 x2=>x1++x2) acc.toArray (List.replicate k its.toArray)=(acc++(List.replicate k its).flatten).toArray
 | 0,acc=>by simp
 | k+1,acc=>by
  have e:acc.toArray++its.toArray=(acc++its).toArray:=by simp
  have e2:(acc++its)++(List.replicate k its).flatten=acc++(List.replicate (k+1) its).flatten:=by
   rw[Cv,IV,FN]
  rw[<- e2,<- foldl_rep its k (acc++its),<- e,Cv,List.foldl_cons]
section
variable{X:Cx}{ae:List (Addr×Obj)}{σ:St}{H:Hp}{s:AB}{l b:Addr}{xs ys zs:List V}
theorem Inv.adU{its its':List AA}{n:Nat}{f:Array AA->Array AA}{t':Nat}(I:Inv X ae σ H s)(hH:H l=some (.lst xs))
  (e:s.heap.get? l=some { cls:=.type "list",data:=.seq its.toArray n }) (hf:f its.toArray=its'.toArray) (hv:Vals ys its') (hz:ys.length<=sizeLine) :
  Inv X ae σ (upd H l (.lst ys)) { s with heap:=s.heap.update l (Obj.mapSeq f),toks:=t' }:=by
 have q:=PySem.IsL.update e f;rw[hf] at q;refine I.write (x:=l) (e:=l) (by rw[hH]; exact trivial) (.inl rfl) (fun b' u hb hu=>(zg s.heap (Obj.mapSeq f) (Ne.symm hb)).trans hu) ⟨_,q⟩ ?_
 exact⟨hz,its',_,hv,q⟩
theorem Inv.XX{its:List AA}{t':Nat}(I:Inv X ae σ H s)(hv:Vals ys its)(hz:ys.length<=sizeLine) :
  Inv X ae σ (upd H s.heap.objs.size (.lst ys)) { s with heap:=s.heap.push { cls:=.type "list",data:=.seq its.toArray },toks:=t' }:=
 I.laid (fun _ _ q=>fB _ q) (bw _) ⟨hz,its,0,hv,cO _ rfl⟩
theorem Inv.fresh(I:Inv X ae σ H s):H s.heap.objs.size=none:=I.hok.fresh (bw _)
theorem Inv.Uz(I:Inv X ae σ H s)(hH:H l=some (.lst xs)):xs.length<=sizeLine/\∃(its:List AA)(n:Nat),Vals xs its/\xs.length=its.length/\s.heap.get? l=some { cls:=.type "list",data:=.seq its.toArray n }:=by
 obtain⟨z,its,n,r,e⟩:=I.hok l _ hH;exact⟨z,its,n,r,r.length,e⟩
theorem QT{n:Nat}(h:n<=sizeLine):Builtin.List.listTooLong n=false:=by
 unfold Builtin.List.listTooLong;exact mY ∅
end
section
variable{X:Cx}
def TY:V->List V->Hp->VK->Prop:=fun x vs H Q=>∃l xs y,x=.ref l/\vs=[y]/\H l=some (.lst xs)/\xs.length<sizeLine/\Q .non (upd H l (.lst (xs++[y])))
theorem eZ:MtM X "list.append" TY:=by
 intro ae s σ H x vs v us Q I rx rv h;obtain⟨l,xs,y,rfl,rfl,hH,hz,q⟩:=h;cases rx;obtain⟨u,rfl,ru⟩:=rv.one;obtain⟨z,its,n,r,hl,e⟩:=I.Uz hH;refine call_meets F.slot_list_append ⟨_,e,rfl⟩ F.entry_list_append (F.args_list_append_2 _ _) (PySem.list_append l its.toArray n u (by rw[fC]; omega)) ⟨e,?_⟩
 refine⟨.non,_,I.adU (its':=its++[u]) hH e (by simp) (r.append (.cons ru .nil)) ?_,rfl,q⟩
 rw[cC,List.length_singleton];omega
def TV:R2:=fun x y H Q=>∃l b xs zs,x=.ref l/\y=.ref b/\H l=some (.lst xs)/\H b=some (.lst zs)/\xs.length+zs.length<=sizeLine/\∀p,H p=none->Q (.ref p) (upd H p (.lst (xs++zs)))
theorem QL:m7 X (binaryOp .Add) TV:=by
 symm;intro x y v u Q I rx ry h;obtain⟨l,b,xs,zs,rfl,rfl,hH,hB,hz,q⟩:=h;cases rx;cases ry;obtain⟨z,its,n,r,hl,e⟩:=I.Uz hH;obtain⟨z2,its2,n2,r2,hl2,e2⟩:=I.Uz hB;refine PySem.P.add_list e e2 ?_ (by rw[fC,fC]; omega)
 have ea:its.toArray++its2.toArray=(its++its2).toArray:=by simp
 rw[ea];exact⟨.ref _,_,I.XX (t':=s.toks) (r.append r2) (by rw[cC]; omega),rfl,q _ I.fresh⟩
def adw:R2:=fun x y H Q=>∃l k xs,x=.ref l/\y=.int k/\H l=some (.lst xs)/\-(2 ^ 63)<=k/\k<2 ^ 63/\xs.length*k.toNat<=sizeLine /\
 ∀p,H p=none->Q (.ref p) (upd H p (.lst (List.replicate k.toNat xs).flatten))
theorem len_rep{α:Type}(xs:List α)(k:Nat):(List.replicate k xs).flatten.length=k*xs.length:=by
 induction k with
 | zero=>simp
 | succ k ih=>rw[Cv,IV,cC,ih,Nat.succ_mul,Nat.add_comm]
theorem Jf:m7 X (binaryOp .Mult) adw:=by
 symm;intro x y v u Q I rx ry h;obtain⟨l,k,xs,rfl,rfl,hH,h1,h2,hz,q⟩:=h;cases rx;obtain⟨t,rfl⟩:=ry;obtain⟨z,its,n,r,hl,e⟩:=I.Uz hH;have hlen:its.toArray.size*k.toNat<=sizeLine:=by rw[fC,<- hl]; exact hz
 have ad_:¬its.toArray.size*k.toNat>(2 ^ 63-1) / 8:=by
  have:(sizeLine:Nat)<=(2 ^ 63-1) / 8:=by decide
  omega
 have hfit:¬(!Builtin.List.listFitsIndex k)=true:=by
  rw[fitsIndex_both h1 h2];exact ju
 have aa9:¬Builtin.List.listTooLong (its.toArray.size*k.toNat)=true:=by
  rw[QT hlen];exact ju
 have hnew:List.foldl (fun x1 x2=>x1++x2) #[] (List.replicate (if its.toArray.isEmpty=true then 0 else k.toNat) its.toArray)=(List.replicate k.toNat its).flatten.toArray:=by
  have f0:∀m:Nat,List.foldl (fun x1 x2=>x1++x2) #[] (List.replicate m its.toArray)=(List.replicate m its).flatten.toArray:=fun m=>by
   have:=foldl_rep its m [];rw[vg] at this;exact this
  rw[f0];cases its with
  | nil=>simp
  | cons a r'=>rw[aX (by simp)]
 refine wpAny_binaryOp_repeat_ref (T:="list") (U:="int") ⋯ ⟨_,e,rfl⟩ (fun s'=>typeIs_int s' k t) noFill_list_mul F.fills_int_mul F.slot_int_rmul repeat_list F.slot_int_index.lookup
  (call_meets F.slot_int_rmul (typeIs_int s k t) F.entry_int_rmul (F.args_int_rmul_2 _ _) (int___rmul___int_list k t l its.toArray n)
   ⟨e,rfl,⟨_,e,rfl⟩,call_meets F.slot_list_mul ⟨_,e,rfl⟩ F.entry_list_mul (F.args_list_mul_2 _ _) (AutoListH.list___mul___list_int_3 l its.toArray n k t hfit ad_ aa9) ⟨e,?_⟩⟩)
 rw[hnew];exact⟨.ref _,_,I.XX (t':=s.toks) (r.rep k.toNat) (by rw[len_rep,Nat.mul_comm]; exact hz),rfl,q _ I.fresh⟩
end
section
variable{prog:AC}{w:World}{A:Around}{E:AA->AB->Prop}{s:AB}
end
section
variable{X:Cx}
end
end _L
namespace Att
open PySem PySem.W PySem.Calls PyProof.Rows
theorem vL{P:Params}{h:Heap}:∀(ns:List Int)(vs:List AA),WellAll P h vs (ns.map WData.int)->IntsAre vs ns:=by
 intro ns
 induction ns with
 | nil=>
  intro vs w;rw[vd] at w;cases w;exact .nil
 | cons n ns ih=>
  intro vs w;rw[gH] at w;cases w with
  | cons a b=>
   cases a;exact .cons _ _ (ih _ b)
theorem MK{l:OpenLaw}{n:Nat}(hn:l.most=some n){P:Params}{h:Heap}{args:List WData}{vals:List AA}
  (hpre:l.row.toRowW.claim.pre args=true) (hwl:WellAll P h vals args) :
  ∃a vs ns,vals=[Value.ref a]/\args=[WData.list (ns.map WData.int)]/\h.get? a=some { cls:=.type "list",data:=.seq vs.toArray }/\IntsAre vs ns/\ns.length<=n:=by
 have hsh:WShape.hasAll [] args [.list .int]=true:=(pre_splitW hpre).1;have hc:l.pre.holds [] { args:=args }=true:=(pre_splitW hpre).2;obtain⟨d,r,rfl,h1,h2⟩:=hasAllW_cons hsh;obtain rfl:=hasAllW_nil h2;obtain⟨xs,rfl,h3⟩:=hasW_list h1;obtain⟨ns,rfl⟩:=items_int h3
 have hlen:ns.length<=n:=by
  unfold OpenLaw.pre at hc
  have h4:(WTm.not (.lt (.lit (.int (n:Int))) (.len (.arg 0)))).holds [] { args:=[.list (ns.map .int)] }=true:=by
   have h4:=(holds_andW hc).1;rw[hn] at h4;exact h4
  have h5:=condW_of h4 (w_not (w_lt w_lit (w_len_list (w_arg rfl))));rw[bN] at h5;refine Nat.le_of_not_lt fun q=>?_;have q':(n:Int)<((ns.length:Nat):Int):=by omega
  first
   | (rw[rH q'] at h5; exact absurd h5 ⋯)
   | (simp at h5; omega)
 cases hwl with
 | cons w1 w2=>
  cases w2;cases w1 with
  | list ho hall=>exact⟨_,_,ns,rfl,rfl,ho,vL ns _ hall,hlen⟩
theorem M7(l:OpenLaw)(args:List WData):l.row.toRowW.claim.post args (.bool true) args=true:=
 postW_of (r:=l.row.toRowW) (X:=(true==true))
  (show WShape.has [] (.bool true) .bool=true by first | rfl | decide | simp[WShape.has,WShape.arms,WShape.armsAll])
  (show(WTm.eq .res (.lit (.bool true))).value [] { args:=args,res:=some (.bool true),after:=args }=some (.bool (true==true)) from w_eq_bool (w_res rfl) w_lit) rfl
theorem Hn{l:OpenLaw}{n:Nat}{q:AC}{loose:List Str}{XP:(Str->Option AA)->Heap->Prop}{YP:World->Heap->Prop}{d:DefRec}
  (hn:l.most=some n) (hdf:d.params.defaults=[])
  (call:∀(w:World)(s₀ s₁:AB)(mg mb:Str->Option AA)(fa:Addr)(o:Obj)(pm cd doc:AA)(a:Addr)(vs:List AA)(ns:List Int),
   Ground q loose [] XP w s₀ mg mb s₁.heap->YP w s₁.heap ->
   s₁.heap.get? fa=some o->o.data=.func (docDef d.name d.params d.body d.scope pm cd doc)->s₁.heap.CodeRec cd d.name->mg d.name=some (.ref fa) ->
   s₁.heap.get? a=some { cls:=.type "list",data:=.seq vs.toArray }->IntsAre vs ns->ns.length<=n->s₁.gens = #[] ->
   codeAny (model l.prog w) callerA (.call (.ref fa) ⟨[.ref a],[]⟩) (fun r s'=>r=.ok (.ret (.bool true))/\OldK s₁.heap s'.heap/\s'.os=s₁.os/\AllBare s'.gens) s₁) :
  WalkO q loose XP YP l.row.toRowW d [] (fun f vs=>PySem.call f vs):=by
 intro w s₀ s₁ mg mb G Y fa o pm cd doc dV kV ho hd hcd hD hmg hg args vals as hpre hlay hrd hwl hlo;obtain rfl:dV=.none:=Dflts.none hD hdf;obtain rfl:kV=.none:=Dflts.noKw hD;obtain⟨a,vs,ns,rfl,rfl,hobj,hints,hlen⟩:=MK hn hpre hwl;refine enter_call (codeAny_mono (call w s₀ s₁ mg mb fa o pm cd doc a vs ns G Y ho (fd_plain hd) hcd hmg hobj hints hlen hg) fun r s' hq=>?_);obtain⟨rfl,h2,h3,h4⟩:=hq;exact⟨.inl ⟨.bool true,.bool true,[],rfl,fun _=>rfl,.bool true,M7 l _,fun _=>⟨List.Pairwise.nil,fun _ hm=>(nomatch hm)⟩⟩,h2,h3,h4⟩
section
variable{prog:AC}{w:World}{A:Around}{E:AA->AB->Prop}{s:AB}{K:Frag}
def ledger(h:Heap)(L d:Addr):List (Addr×Obj):=(List.range h.objs.size).filterMap fun a=>if a=L\/a=d then none else(h.get? a).map fun o=>(a,o)
end
end Att
namespace _L
open PySem PySem.Spec PyProof.Rows
theorem z_:∀{vs:List AA}{ns:List Int},IntsAre vs ns->Vals (ns.map V.int) vs
 | _,_,.nil=>.nil
 | _,_,.cons n t h=>.cons ⟨t,rfl⟩ (z_ h)
def Only(H:Hp):Prop:=∀b,H b=none\/∃o xs,H b=some (.ug o (.lst xs))
theorem Q3{P:AC}{w:World}{K:Frag}{mg mb:Str->Option AA}{CX:Lx}{k:Nat}{fa a:Addr}{fd:FuncData}{x:Str}{sp:Sp}{s₁:AB}{vs:List AA}{ns:List Int}
  (KX:K.In s₁.heap) (hns:s₁.heap.Ns mainGlobals mg) (hb:s₁.heap.Ns builtinsNs mb) (hbb:∀x:Str,x ≠ "__name__" -> mb x=bootBuiltins x) (hlim:s₁.heap.NoLimit) (hg:s₁.gens = #[])
  (ha:s₁.heap.get? a=some { cls:=.type "list",data:=.seq vs.toArray }) (hi:IntsAre vs ns) (hl:ns.length<=sizeLine) (hr:eG k callerA)
  (F:∀base:Heap,K.In base->base.Ns mainGlobals mg->bF P w K mg base CX k fa fd [x] sp) (hbind:∀(s:AB)(u:AA),BindsTo s fd ⟨[u],[]⟩ [(x,u)])
  (hsp:∀H:Hp,Only H->bT K H a (ns.map V.int)->sp [.ref a] H (fun v _=>v=.bl true) fun _ _ _=>False)
  (hCX:∀H e s',CX [] H s₁ (fun _ _ _=>False) e s'->False) :
  codeAny (model P w) callerA (.call (.ref fa) ⟨[.ref a],[]⟩) (fun r s'=>r=.ok (.ret (.bool true))/\OldK s₁.heap s'.heap/\s'.os=s₁.os/\AllBare s'.gens) s₁:=by
 have rv:=z_ hi;have lenV:=hi.length;have core:∀H:Hp,Only H->bT K H a (ns.map V.int)->jK P w H s₁.heap->(∀b,H b≠none->b=a)->(H a≠none->K.lookup a=none) ->
   codeAny (model P w) callerA (.call (.ref fa) ⟨[.ref a],[]⟩) (fun r s'=>r=.ok (.ret (.bool true))/\OldK s₁.heap s'.heap/\s'.os=s₁.os/\AllBare s'.gens) s₁:=by
  intro H hO hS hok hA hK;have Ls:∀{b:Addr}{o:Obj},s₁.heap.get? b=some o->H b=none->(Dn s₁.heap H).get? b=some o:=fun e n=>Q9 e n
  have noA:∀{b:Addr}{o:Obj}{es:Array DictEntry}{ep:Nat},s₁.heap.get? b=some o->o.data=.dict es ep->H b=none:=fun {b o es ep} e d=>by
   cases q:H b with
   | none=>rfl
   | some u=>
    have e':b=a:=hA b (by rw[q]; simp)
    subst e';rw[ha] at e; cases e;have d':Data.seq vs.toArray _=Data.dict es ep:=d;cases d'
  have nsK:∀{b:Addr}{m:Str->Option AA},s₁.heap.Ns b m->(Dn s₁.heap H).Ns b m:=fun {b m} ⟨o,es,ep,e,d,r⟩=>⟨o,es,ep,Ls e (noA e d),d,r⟩
  have hKb:K.In (Dn s₁.heap H):=fun b o e=>Ls (KX b o e) (by
   cases q:H b with
   | none=>rfl
   | some u=>
    have e':b=a:=hA b (by rw[q]; simp)
    subst e'
    rw[hK (by rw[q]; simp)] at e; cases e)
  have hM:Mod K mg (Dn s₁.heap H):=⟨hKb,nsK hns,⟨mb,nsK hb,hbb⟩,let ⟨mc,h1,h2⟩:=hlim; ⟨mc,nsK h1,h2⟩⟩;have e0:J3 P w K mg (Dn s₁.heap H) callerA [] s₁ H:=⟨rfl,hM,fun b o e=>Ur e,Nat.le_of_eq (NP _ _),trivial,fun b hb=>absurd (show b∈([]:List Addr) from hb) (by simp),hok,.of_eq hg⟩
  refine codeAny_mono ((F _ hKb (nsK hns)).run callerA [] s₁ H ⟨[.ref a],[]⟩ [.ref a] [.ref a] _ _ hr e0 (hbind s₁ (.ref a)) (.cons rfl .nil) (hsp H hO hS)) fun r s' h=>?_;cases r with
  | error e=>exact(hCX H e s' h).elim
  | ok fl=>
   cases fl with
   | next=>exact False.elim h
   | brk=>exact False.elim h
   | cont=>exact False.elim h
   | ret u=>
    obtain⟨v,H',os,bare,un,hok',r',q⟩:=h;have q':v=.bl true:=q;subst q';obtain rfl:u=Value.bool true:=r';refine⟨rfl,OldK.of_keep fun b o e=>?_,os,bare⟩;cases q:H b with
    | none=>exact un.keep b o e q (by intro z; exact absurd (show b∈([]:List Addr) from z) (by simp)) (by simp)
    | some u=>
     rcases hO b with z | ⟨ob,xs,z⟩
     ·rw[q] at z; cases z
     ·have z2:=un.vN b ob _ z;obtain⟨e1,_⟩:=hok b _ z;obtain⟨e2,_⟩:=hok' b _ z2;rw[e] at e1; cases e1;exact e2
 cases hk:K.lookup a with
 | some o=>
  have e:=KX a o hk;rw[ha] at e;cases e;refine core (fun _=>none) (fun _=>.inl rfl) (.inr ⟨_,vs.toArray,_,hk,rfl,rfl,rfl,by rw[fC,lenV]; exact hl,by simpa using rv⟩) (fun b u z=>by have z':(none:Option HO)=some u:=z; cases z') (fun b z=>absurd rfl z) fun z=>absurd rfl z
 | none=>
  refine core (fun b=>if b=a then some (.ug { cls:=.type "list",data:=.seq vs.toArray } (.lst (ns.map V.int))) else none) (fun b=>?_) (.inl (.inr ⟨{ cls:=.type "list",data:=.seq vs.toArray },bh rfl⟩)) (fun b u z=>?_) (fun b z=>?_) fun _=>hk
  ·by_cases hb:b=a
   ·exact .inr ⟨_,_,bh hb⟩
   ·exact .inl (aX hb)
  ·by_cases hb:b=a
   ·have z':=(bh hb).symm.trans z;cases z';subst hb;exact⟨ha,by rw[bN]; exact hl,vs,_,rv,ha⟩
   ·have z':=(aX hb).symm.trans z;cases z'
  ·by_cases hb:b=a
   ·exact hb
   ·exact absurd (aX hb) z
abbrev KOf{K:Frag}{h:Heap}(_:K.In h):Frag:=K
theorem Td{l:PySem.W.OpenLaw}{n k:Nat}{q:AC}{loose:List Str}{XP:(Str->Option AA)->Heap->Prop}{YP:World->Heap->Prop}{d:DefRec}{K:Params->Frag}{CX:World->Lx}{sp:World->Sp}{x:Str}
  (hn:l.most=some n) (hn2:n<=sizeLine) (hdf:d.params.defaults=[]) (hr:eG k callerA)
  (hY:∀(w:World)(h:Heap),YP w h->(K w.params).In h)
  (F:∀(w:World)(mg:Str->Option AA)(fa:Addr)(h:Heap),(K w.params).In h->h.Ns mainGlobals mg->mg d.name=some (.ref fa) ->
   ∃fd:FuncData,(∀(s:AB)(u:AA),BindsTo s fd ⟨[u],[]⟩ [(x,u)]) /\
    ∀base:Heap,(K w.params).In base->base.Ns mainGlobals mg->bF l.prog w (K w.params) mg base (CX w) k fa fd [x] (sp w))
  (hsp:∀(w:World)(H:Hp)(a:Addr)(ns:List Int),ns.length<=n->Only H->bT (K w.params) H a (ns.map V.int)->sp w [.ref a] H (fun v _=>v=.bl true) fun _ _ _=>False)
  (hCX:∀(w:World)(H:Hp)(s:AB)(e:AA)(s':AB),CX w [] H s (fun _ _ _=>False) e s'->False) :
  PySem.W.WalkO q loose XP YP l.row.toRowW d [] (fun f vs=>PySem.call f vs):=by
 refine Att.Hn hn hdf fun w s₀ s₁ mg mb fa o pm cd doc a vs ns G Y ho hd hcd hmg hobj hints hlen hg=>?_;have KX:=hY w _ Y;obtain⟨fd,hb,hF⟩:=F w mg fa _ KX G.T.g hmg;exact Q3 KX G.T.g G.T.b G.T.builtins G.T.nolimit hg hobj hints (iH hlen hn2) hr hF hb (fun H hO hS=>hsp w H a ns hlen hO hS) fun H e s'=>hCX w H s₁ e s'
end _L
namespace _L
open PySem PySem.Spec PyProof.Rows
def inClass(s:Stmt)(j:Nat):Stmt:=match s with
 | .ClassDef _ _ _ body _ _ _ _ _ _ _=>body.getD j (.Pass ⟨0,0,0,0⟩)
 | _=>.Pass ⟨0,0,0,0⟩
def b7(s:Stmt):Arguments:=match s with
 | .FunctionDef _ a _ _ _ _ _ _ _ _=>a
 | _=>{ posonlyargs:=[],args:=[],vararg:=none,kwonlyargs:=[],kw_defaults:=[],kwarg:=none,defaults:=[] }
def bK(s:Stmt):List Stmt:=match s with
 | .FunctionDef _ _ b _ _ _ _ _ _ _=>b
 | _=>[]
def aD(s:Stmt):Scope:=match s with
 | .FunctionDef _ _ _ _ _ _ sc _ _ _=>sc
 | _=>{ kind:=.function,names:=[],isGenerator:=false,isCoroutine:=false }
abbrev iy:Lx:=fun _ _ _ _ _ _=>False
abbrev E0:XK:=fun _ _ _=>False
theorem Ay{X:Cx}:Passes iy X E0:=fun _ _ _ _ _ _ _ h=>h.elim
structure jL(K:Frag)(x qual:Str)(st:Stmt)(f:Addr)(fd:FuncData):Prop where
 ex:∃(oc:AA)(od:Option Addr)(kV doc pm:AA)(an:Option Addr)(cdv ct:AA)(osl:Array (Option AA)),
  fd=fnOf x qual (b7 st) (bK st) (aD st) .none kV doc pm an cdv ct/\K.lookup f=some ⟨oc,od,.func fd,osl⟩/\codeIn K cdv qual=true
 kp:keepIn K (.ref f)=true
section
variable{P:AC}{w:World}{K:Frag}{mg:Str->Option AA}{base:Heap}
theorem jL.ok{x qual:Str}{st:Stmt}{f:Addr}{fd:FuncData}{N ps:List Str}{k:Nat}{sp:Sp}(F:jL K x qual st f fd)(S:aV N ps (aD st))(len: autoParam (∀vs H Q E,sp vs H Q E->vs.length=ps.length) z_g._auto_1)
  (hbody:∀(cdv:AA)(A:Around)(outer:List Env)(s:AB)(H:Hp)(vs:List V)(Q:VK)(E:XK),eG k (A.deeper (envOfC qual (aD st) s.heap.objs.size f cdv))->sp vs H Q E ->
   ∃t,Ej (k_ iy P w K mg base N qual (aD st) f cdv A outer s H E).Zj (bK st) t/\t { nx:=fun _ H'=>Q .non H',rt:=Q } (start N vs) H):bF P w K mg base iy (k+1) f fd ps sp:=by
 obtain⟨oc,od,kV,doc,pm,an,cdv,ct,osl,rfl,lk,hcd⟩:=F.ex;refine Wh lk hcd S len fun A outer s H vs Q E hr hsp=>?_;obtain⟨t,h,q⟩:=hbody cdv A outer s H vs Q E hr hsp;exact⟨t,h.Zj,q⟩
theorem jL.binds{x qual:Str}{st:Stmt}{f:Addr}{fd:FuncData}{ps:List Str}(F:jL K x qual st f fd)
  (h:∀(kV doc pm:AA)(an:Option Addr)(cdv ct:AA)(us:List AA),us.length=ps.length->bindArgs (fnOf x qual (b7 st) (bK st) (aD st) .none kV doc pm an cdv ct) ⟨us,[]⟩=pure (ps.zip us)):Binds K fd ps []:=by
 obtain⟨oc,od,kV,doc,pm,an,cdv,ct,osl,rfl,lk,hcd⟩:=F.ex;exact .all (h kV doc pm an cdv ct)
theorem JB{x qual:Str}{st:Stmt}{f:Addr}{oc:AA}{od an:Option Addr}{osl:Array (Option AA)}{kV doc pm cdv ct:AA}(l:K.lookup f=some ⟨oc,od,.func (fnOf x qual (b7 st) (bK st) (aD st) .none kV doc pm an cdv ct),osl⟩)
  (c:codeIn K cdv qual=true) (k:keepIn K (.ref f)=true):jL K x qual st f (fnOf x qual (b7 st) (bK st) (aD st) .none kV doc pm an cdv ct):=⟨(xi9 oc od kV doc pm an cdv ct osl ⟨rfl,l,c⟩),k⟩
end
theorem aQ{n:Nat}(h:n<=1000):n<sizeLine:=Nat.lt_of_le_of_lt h ⋯
section
variable{X:Cx}
theorem pv(i:Nat){x:Str}{pos:Pos}(hN: ~~~(X.N[i]?=some x))(hv:Vis X.env.scope x:=by walk_at "v")(hd:((x==("__debug__" : Str))=false)⁻¹)
  (hcd:((x==("__classdict__" : Str))=false)⁻¹):PE X (.Name x pos) (mU i):=Xv hN hv hd hcd
end
theorem aa5{c A B:Prop}[Decidable c](h1:c->A)(h2:¬c->B):if c then A else B:=by
 by_cases h:c
 ·rw[bh h];exact h1 h
 ·rw[aX h];exact h2 h
def aK(H H':Hp):Prop:=∀b o,H b=some o->H' b=some o
theorem aK.refl(H:Hp):aK H H:=fun _ _ h=>h
theorem aK.trans{H H1 H2:Hp}(a:aK H H1)(b:aK H1 H2):aK H H2:=fun c o h=>b c o (a c o h)
section
variable{κ:Type}[DecidableEq κ]
def qZ(kvs:List (κ×V))(k:κ):Option V:=(kvs.find? fun kv=>decide (kv.1=k)).map (·.2)
def putK(kvs:List (κ×V))(k:κ)(v:V):List (κ×V):=
 if(kvs.any fun kv=>decide (kv.1=k))=true then kvs.map (fun kv=>if kv.1=k then(kv.1,v) else kv) else kvs++[(k,v)]
theorem qY{p:κ×V}{r:List (κ×V)}{k:κ}(e:p.1=k):qZ (p::r) k=some p.2:=by simp[qZ,Ao,e]
theorem wC{p:κ×V}{r:List (κ×V)}{k:κ}(e:¬p.1=k):qZ (p::r) k=qZ r k:=by simp[qZ,Ao,e]
theorem Es(k:κ):∀kvs:List (κ×V),(kvs.any fun kv=>decide (kv.1=k))=(qZ kvs k).isSome
 | []=>rfl
 | p::r=>by
  rw[xK];by_cases e:p.1=k
  ·simp only[qY e,rH e,Bool.true_or,Option.isSome_some]
  ·rw[wC e,mY e,Bool.false_or]; exact Es k r
theorem h_(kvs:List (κ×V))(k:κ)(v:V):(putK kvs k v).length<=kvs.length+1:=by
 unfold putK;split
 ·rw[bN]; omega
 ·rw[cC,fU,mX]; omega
theorem pR.NK{o:Option V}{u:Option AA}(r:pR o u):o.isSome=u.isSome:=by
 cases o with
 | none=>cases u with
  | none=>rfl
  | some _=>exact(show False from r).elim
 | some _=>cases u with
  | none=>exact(show False from r).elim
  | some _=>rfl
theorem KV.val{kvs:List (κ×V)}{vs:List (κ×AA)}(r:KV kvs vs)(k:κ):pR (qZ kvs k) (valueAt vs k):=by
 unfold KV at r
 induction r with
 | nil=>exact True.intro
 | @cons p q ps qs h t ih=>
  obtain⟨h1,h2⟩:=h;by_cases e:p.1=k
  ·have e':q.1=k:=h1.symm.trans e;have b:valueAt (q::qs) k=some q.2:=by simp[valueAt,Ao,e']
   rw[qY e,b]; exact h2
  ·have e':¬q.1=k:=fun z=>e (h1.trans z);have b:valueAt (q::qs) k=valueAt qs k:=by simp[valueAt,Ao,e']
   rw[wC e,b]; exact ih
theorem KV.any{kvs:List (κ×V)}{vs:List (κ×AA)}(r:KV kvs vs)(k:κ):(kvs.any fun kv=>decide (kv.1=k))=vs.any fun kv=>decide (kv.1=k):=by
 unfold KV at r
 induction r with
 | nil=>rfl
 | cons h t ih=>rw[xK,xK,ih,h.1]
theorem KV.repl{kvs:List (κ×V)}{vs:List (κ×AA)}(r:KV kvs vs)(k:κ){y:V}{u:AA}(ry:RelV y u) :
  KV (kvs.map fun kv=>if kv.1=k then(kv.1,y) else kv) (vs.map fun kv=>if kv.1=k then(kv.1,u) else kv):=by
 unfold KV at r ⊢
 induction r with
 | nil=>exact .nil
 | @cons p q ps qs h t ih=>
  rw[gH,gH];refine .cons ?_ ih;obtain⟨h1,h2⟩:=h;by_cases e:p.1=k
  ·rw[bh e,bh (h1.symm.trans e)]; exact⟨h1,ry⟩
  ·rw[aX e,aX (fun z=>e (h1.trans z))]; exact⟨h1,h2⟩
theorem KV.put{kvs:List (κ×V)}{vs:List (κ×AA)}(r:KV kvs vs)(k:κ){y:V}{u:AA}(ry:RelV y u):KV (putK kvs k y) (stored vs k u):=by
 unfold putK stored;rw[r.any k];by_cases e:(vs.any fun kv=>decide (kv.1=k))=true
 ·rw[bh e,bh e]; exact r.repl k ry
 ·rw[aX e,aX e]; exact Paired.snoc r ⟨rfl,ry⟩
theorem KV.length{kvs:List (κ×V)}{vs:List (κ×AA)}(r:KV kvs vs):kvs.length=vs.length:=Paired.length r
end
theorem GP{P:AC}{w:World}{k:Key}{u:AA}(r:RelV (kV k) u):(du P w).is k u=true:=by
 cases k with
 | inl i=>obtain⟨t,e⟩:=(show ∃t,u=Value.int i t from r); subst e; exact GJ P w i t
 | inr x=>obtain⟨t,e⟩:=(show ∃t,u=Value.str x t from r); subst e; exact GF P w x t
theorem Ba{P:AC}{w:World}:∀{ks:List Key}{us:List AA},Vals (ks.map kV) us->ItemsAre (du P w) ks us
 | [],_,r=>by rw[vd] at r; cases r; exact .nil
 | k::ks,_,r=>by
  rw[gH] at r;cases r with
  | cons h t=>exact .cons (GP h) (Ba t)
abbrev KT(H:Hp):List (List Key×V)->List (List Key×Addr×AA)->Prop:=Paired fun p q=>p.1=q.1/\H q.2.1=some (.tup (p.1.map kV))/\RelV p.2 q.2.2
theorem KT.val{H:Hp}{kvs:List (List Key×V)}{xs:List (List Key×Addr×AA)}(r:KT H kvs xs)(k:List Key):pR (qZ kvs k) ((atKey xs k).map (·.2)):=by
 induction r with
 | nil=>exact True.intro
 | @cons p q ps qs h t ih=>
  obtain⟨h1,_,h2⟩:=h;by_cases e:p.1=k
  ·have e':q.1=k:=h1.symm.trans e;have b:atKey (q::qs) k=some q.2:=by simp[atKey,Ao,e']
   rw[qY e,b]; exact h2
  ·have e':¬q.1=k:=fun z=>e (h1.trans z);have b:atKey (q::qs) k=atKey qs k:=by simp[atKey,Ao,e']
   rw[wC e,b]; exact ih
theorem KT.repl{H:Hp}{kvs:List (List Key×V)}{xs:List (List Key×Addr×AA)}(r:KT H kvs xs)(k:List Key){y:V}{u:AA}(ry:RelV y u) :
  KT H (kvs.map fun kv=>if kv.1=k then(kv.1,y) else kv) (xs.map (putAt k u)):=by
 induction r with
 | nil=>exact .nil
 | @cons p q ps qs h t ih=>
  rw[gH,gH];refine .cons ?_ ih;obtain⟨h1,h2,h3⟩:=h;unfold putAt;by_cases e:p.1=k
  ·rw[bh e,bh (h1.symm.trans e)]; exact⟨h1,h2,ry⟩
  ·rw[aX e,aX (fun z=>e (h1.trans z))]; exact⟨h1,h2,h3⟩
theorem KT.put{H:Hp}{kvs:List (List Key×V)}{xs:List (List Key×Addr×AA)}(r:KT H kvs xs)(k:List Key){b:Addr}{y:V}{u:AA}(hb:H b=some (.tup (k.map kV)))(ry:RelV y u) :
  KT H (putK kvs k y) (storedH xs k b u):=by
 have e:(kvs.any fun kv=>decide (kv.1=k))=(atKey xs k).isSome:=by
  rw[Es,(r.val k).NK,Option.isSome_map]
 unfold putK storedH;rw[e];by_cases q:(atKey xs k).isSome=true
 ·rw[bh q,bh q]; exact r.repl k ry
 ·rw[aX q,aX q]; exact Paired.snoc r ⟨rfl,hb,ry⟩
theorem KT.keeps{H H':Hp}{kvs:List (List Key×V)}{xs:List (List Key×Addr×AA)}(r:KT H kvs xs)(ht:∀b ys,H b=some (.tup ys)->H' b=some (.tup ys)):KT H' kvs xs:=
 Paired.XN r fun _ _ z=>⟨z.1,ht _ _ z.2.1,z.2.2⟩
section
variable{P:AC}{w:World}{H:Hp}{h:Heap}{a:Addr}
theorem V4{u:HO}(ok:jK P w H h)(e:Rd H a u):b_ P w H h a u:=e.ok ok
theorem Ry{kvs:List (Key×V)}(ok:jK P w H h)(e:Rd H a (.dK kvs)):kvs.length<=sizeLine/\(a==sysModules)=false/\∃vs,KV kvs vs/\h.DictOf (du P w) a vs:=
 show b_ P w H h a (.dK kvs) from V4 ok e
theorem Li{kvs:List (Key×V)}(ok:jK P w H h)(e:H a=some (.dK kvs)):kvs.length<=sizeLine/\(a==sysModules)=false/\∃vs,KV kvs vs/\h.DictOf (du P w) a vs:=Ry ok (.inl e)
theorem Ju{ks:List Key}(ok:jK P w H h)(e:H a=some (.tup (ks.map kV))):(tupleKind (du P w)).is h ks a:=by
 obtain⟨_,its,r,o,h1,h2,n,h3⟩:=(show b_ P w H h a (.tup (ks.map kV)) from ok a _ e);exact⟨o,its.toArray,n,h1,h2,h3,by simpa using Ba r⟩
theorem Rx{kvs:List (List Key×V)}(ok:jK P w H h)(e:Rd H a (.dT kvs)):kvs.length<=sizeLine/\(a==sysModules)=false /\
  ∃xs,KT H kvs xs/\h.DictOfH (tupleKind (du P w)) a xs:=by
 obtain⟨z,y,xs,r,o,es,ep,h1,h2,h3,h4,h5⟩:=(show b_ P w H h a (.dT kvs) from V4 ok e);refine⟨z,y,xs,r,o,es,ep,h1,h2,h3,h4,fun x hx=>?_,h5⟩
 have all:∀{l:List (List Key×V)}{m:List (List Key×Addr×AA)},KT H l m->∀x∈m,(tupleKind (du P w)).is h x.1 x.2.1:=by
  intro l m q
  induction q with
  | nil=>intro x hx; exact nomatch hx
  | @cons p q ps qs hq t ih=>
   intro x hx;rcases bB.mp hx with e | hx
   ·subst e;exact Ju ok (by rw[<- hq.1]; exact hq.2.1)
   ·exact ih x hx
 exact all r x hx
theorem abw{kvs:List (List Key×V)}(ok:jK P w H h)(e:H a=some (.dT kvs)):kvs.length<=sizeLine/\(a==sysModules)=false /\
  ∃xs,KT H kvs xs/\h.DictOfH (tupleKind (du P w)) a xs:=Rx ok (.inl e)
end
def m8(H:Hp)(a:Addr)(y:V)(r:Option V):Prop:=
 (∃kvs k,Rd H a (.dK kvs)/\y=kV k/\r=qZ kvs k)\/∃kvs k b,Rd H a (.dT kvs)/\y=.ref b/\H b=some (.tup (k.map kV))/\r=qZ kvs k
def vQ(H:Hp)(a:Addr)(y v:V)(H':Hp):Prop:=
 (∃kvs k,H a=some (.dK kvs)/\y=kV k/\kvs.length<sizeLine/\H'=upd H a (.dK (putK kvs k v))) \/
 ∃kvs k b,H a=some (.dT kvs)/\y=.ref b/\H b=some (.tup (k.map kV))/\kvs.length<sizeLine/\H'=upd H a (.dT (putK kvs k v))
theorem m8.k{H:Hp}{a:Addr}{kvs:List (Key×V)}{k:Key}(e:H a=some (.dK kvs)):m8 H a (kV k) (qZ kvs k):=.inl ⟨kvs,k,.inl e,rfl,rfl⟩
theorem vQ.k{H:Hp}{a:Addr}{kvs:List (Key×V)}{k:Key}{v:V}(e:H a=some (.dK kvs))(hl:kvs.length<sizeLine):vQ H a (kV k) v (upd H a (.dK (putK kvs k v))):=.inl ⟨kvs,k,e,rfl,hl,rfl⟩
section
variable{X:Cx}{ae:List (Addr×Obj)}{σ:St}{H:Hp}{s:AB}{a:Addr}{y v:V}{u r:AA}{o:Option V}{A:Around}{E:AA->AB->Prop}
theorem Inv.big(I:Inv X ae σ H s):sysModules<s.heap.objs.size:=by
 have h:mainGlobals<s.heap.objs.size:=(I.mod.glob.keeps I.bk).lt;exact FW ⋯ h
theorem Bl{Q:AA->AB->Prop}(hu:A.units+1<cLine)(I:Inv X ae σ H s)(g:m8 H a y (some v))(ry:RelV y u)(h:∀w' s',Inv X ae σ H s'->RelV v w'->Q w' s') :
  wpAny (model X.prog X.w) A (getItem (.ref a) u) Q E s:=by
 rcases g with⟨kvs,k,e,ey,l⟩ | ⟨kvs,k,b,e,ey,eb,l⟩
 ·subst ey;obtain⟨z,hd,vs,rel,dd⟩:=Ry I.hok e;obtain⟨w',hw,yU⟩:=pR.some_of (v:=v) (o:=valueAt vs k) (by rw[l]; exact rel.val k)
  exact wpAny_getItem_of (GP ry) dd.mapOf hw (h w' _ (I.tok _) yU)
 ·subst ey;cases(show u=Value.ref b from ry);obtain⟨z,hd,xs,rel,dd⟩:=Rx I.hok e;obtain⟨w',hw,yU⟩:=pR.some_of (v:=v) (o:=(atKey xs k).map (·.2)) (by rw[l]; exact rel.val k)
  obtain⟨p,hp,hp2⟩:=Ku.mp hw;refine wpAny_getItem_heap (tupleKind_room_in1 hu) (Ju I.hok eb) dd hp ?_;rw[hp2];exact h w' _ (I.tok _) yU
theorem sr{h':Heap}{t':Nat}{ob:HO}(I:Inv X ae σ H s)(mu:Mut (H a))(hs:Heap.SameBut a s.heap h')(he:∃q,h'.get? a=some q)(new:b_ X.prog X.w (upd H a ob) h' a ob) :
  Inv X ae σ (upd H a ob) { s with heap:=h',toks:=t' }:=
 I.write (x:=a) (e:=a) mu (.inl rfl) (fun b q hb z=>(hs.2 b hb).trans z) he new
theorem JG{P:AC}{w:World}{H':Hp}{h':Heap}{kvs:List (Key×V)}{vs:List (Key×AA)}(z:kvs.length<=sizeLine)(hd:(a==sysModules)=false)(rel:KV kvs vs)(dd:h'.DictOf (du P w) a vs) :
  b_ P w H' h' a (.dK kvs):=⟨z,hd,vs,rel,dd⟩
theorem Bk{H':Hp}{Q:Unit->AB->Prop}(hu:A.units+1<cLine)(I:Inv X ae σ H s)(g:vQ H a y v H')(ry:RelV y u)(rv:RelV v r)(h:∀s',Inv X ae σ H' s'->Q () s') :
  wpAny (model X.prog X.w) A (setItem (.ref a) u r) Q E s:=by
 rcases g with⟨kvs,k,e,ey,l,eH⟩ | ⟨kvs,k,b,e,ey,eb,l,eH⟩
 ·subst ey eH;obtain⟨z,hd,vs,rel,dd⟩:=Li I.hok e;have hz:vs.length<=sizeLine:=by rw[<- rel.length]; exact z
  have hl:(putK kvs k v).length<=sizeLine:=by have:=h_ kvs k v; omega
  refine wpAny_setItem_pairs (hsz:=hz) (GP ry) dd fun h' Wn hs=>h _ ?_;have he:∃q,h'.get? a=some q:=let ⟨q,_,_,hq,_⟩:=Wn; ⟨q,hq⟩;exact sr I (by rw[e]; exact True.intro) hs he (JG hl hd (rel.put k rv) Wn)
 ·subst ey eH;cases(show u=Value.ref b from ry);obtain⟨z,hd,xs,rel,dd⟩:=abw I.hok e;have hz:xs.length<=sizeLine:=by rw[<- Paired.length rel]; exact z
  have hl:(putK kvs k v).length<=sizeLine:=by have:=h_ kvs k v; omega
  refine wpAny_setItem_heap (hsz:=hz) (tupleKind_room_in1 hu) (Ju I.hok eb) dd fun h' Wn hs=>h _ ?_;refine kJ Wn fun q es ep hq h2 h3 BJ=>?_; clear Wn; obtain⟨h4,_,h5⟩:=BJ;refine sr I (by rw[e]; exact True.intro) hs ⟨q,hq⟩ ⟨hl,hd,_,(rel.put k eb rv).keeps fun c ys ec=>?_,q,es,ep,hq,h2,h3,h4,h5⟩
  rw[aH (aaV ec e (fun z=>nomatch z))]
  exact ec
end
section
variable{X:Cx}{ae:List (Addr×Obj)}{σ:St}{H:Hp}{s:AB}{a:Addr}{kvs:List (Key×V)}{k:Key}{u:AA}{A:Around}{E:AA->AB->Prop}
end
theorem Ha{X:Cx}{ae:List (Addr×Obj)}{σ:St}{H:Hp}{s:AB}{a:Addr}{y:V}{o:Option V}(I:Inv X ae σ H s)(g:m8 H a y o):s.TypeIs (.ref a) "dict" := by
 rcases g with⟨kvs,k,e,_,_⟩ | ⟨kvs,k,b,e,_,_,_⟩
 ·obtain⟨_,_,vs,_,dd⟩:=Ry I.hok e;exact dd.typeIs
 ·obtain⟨_,_,xs,_,dd⟩:=Rx I.hok e;exact dd.typeIs
def xm(td ty tv:TE)(rd:V->V->Hp->VK->Prop):TS:=fun D σ H=>td σ H fun x H1=>ty σ H1 fun y H2=>∃a v,x=.ref a/\m8 H2 a y (some v) /\
 tv σ H2 fun y2 H3=>rd v y2 H3 fun z H4=>∃H5,vQ H4 a y z H5/\D.nx σ H5
section
variable{X:Cx}{o i e value:Expr}{pos pos' tpos:Pos}{td ty tv:TE}
theorem T8{op:Operator}{rd:V->V->Hp->VK->Prop}(hu:X.A.units+1<cLine)(ho:PE X o td)(hi:PE X i ty)(hv:PE X value tv)(hop:abO X op rd)
  (ha:∀ov iv new,augStore i ov iv new=(do holding [new,ov,iv] (setItem ov iv new); release [new,ov,iv] []; pure .next)):PS X (.AugAssign (.Subscript o i tpos) op value pos) (xm td ty tv rd):=by
 symm;intro D I h;refine wpAny_AugAssign_SubscriptAny (cz (ho ae s σ H _ I h) fun u s1 ⟨x,H1,I1,rx,q1⟩=>cz (hi ae s1 σ H1 _ I1 q1) fun iv s2 ⟨y,H2,I2,ry,a,v,ex,g,q2⟩=>?_) ha;subst ex;obtain rfl:u=Value.ref a:=rx;refine Bl hu I2 g ry fun w' s3 I3 yU=>cz (hv ae s3 σ H2 _ I3 q2) fun w2 s4 ⟨y2,H3,I4,ry2,q3⟩=>cz (hop ae s4 σ H3 v y2 w' w2 _ I4 yU ry2 q3) fun w3 s5 qx=>?_;obtain⟨z,H4,I5,rz,H5,g5,q4⟩:=qx;exact Bk hu I5 g5 ry rz fun s6 I6=>⟨σ,H5,I6,q4⟩
end
theorem G_{P:AC}{w:World}{H:Hp}(h:Heap)(hb:sysModules<h.objs.size):b_ P w H (h.push { cls:=.type "dict",data:=.dict #[] }) h.objs.size (.dK []):=
 ⟨gC _,beq_eq_false_iff_ne.mpr (Ne.symm (dJ hb)),[],.nil,Heap.DictOf.new h⟩
section
variable{X:Cx}{pos:Pos}
end
structure M1(X:Cx)(o:Expr)(m:Str)(apos:Pos)(e:Expr)(cpos:Pos):Prop where
 base:attributeBase o m X.env (eval o X.env)=eval o X.env
 few:((backTo cpos (starEach [e] X.env)).all (fun x=>!x.1)&&(backToKw cpos (keywordEach [] X.env)).all (fun x=>x.1.isSome)
  && decide (([e]:List Expr).length+([]:List Keyword).length+(if([]:List Keyword).isEmpty then 0 else 1)<30))=true
 line:(apos.endLine==cpos.line)=true
 trees:backTo cpos (starEach [e] X.env)=[(false,eval e X.env)]
structure M2(X:Cx)(o:Expr)(m:Str)(apos:Pos)(e f:Expr)(cpos:Pos):Prop where
 base:attributeBase o m X.env (eval o X.env)=eval o X.env
 few:((backTo cpos (starEach [e,f] X.env)).all (fun x=>!x.1)&&(backToKw cpos (keywordEach [] X.env)).all (fun x=>x.1.isSome)
  && decide (([e,f]:List Expr).length+([]:List Keyword).length+(if([]:List Keyword).isEmpty then 0 else 1)<30))=true
 line:(apos.endLine==cpos.line)=true
 trees:backTo cpos (starEach [e,f] X.env)=[(false,eval e X.env),(false,eval f X.env)]
def IsD(H:Hp)(a:Addr):Prop:=(∃kvs,Rd H a (.dK kvs))\/∃kvs,Rd H a (.dT kvs)
section
variable{X:Cx}{ae:List (Addr×Obj)}{σ:St}{H:Hp}{s:AB}{a:Addr}{y d:V}{u r:AA}{o:Option V}{A:Around}{E:AA->AB->Prop}
end
def Ie(td ty tx:TE):TE:=fun σ H Q=>td σ H fun x H1=>∃a,x=.ref a/\IsD H1 a/\ty σ H1 fun y H2=>tx σ H2 fun z H3=>∃o,m8 H3 a y o/\Q (o.getD z) H3
section
variable{X:Cx}{o e f:Expr}{apos cpos:Pos}{td ty tx:TE}
end
section
variable{X:Cx}{ae:List (Addr×Obj)}{σ:St}{H:Hp}{s:AB}{a:Addr}{kvs:List (Key×V)}{A:Around}{E:AA->AB->Prop}
end
section
variable{X:Cx}{ae:List (Addr×Obj)}{σ:St}{H:Hp}{s:AB}{a:Addr}{y:V}{u:AA}{A:Around}{E:AA->AB->Prop}
end
end _L
set_option maxHeartbeats 4000000
namespace _L
open PySem PySem.Spec PyProof.Rows
def jm(env:Env)(cs:List (Str×Addr))(y:Str×NameKind):List (Str×Addr):=
 if y.2==.free then(match env.cells.lookup y.1 with | some c=>(y.1,c)::cs | none=>cs) else cs
def qO(sc:Scope)(env:Env):List (Str×Addr):=sc.names.foldl (jm env) []
theorem Hc{env:Env}:∀(ns:List (Str×NameKind))(acc:List (Str×Addr)),(∀y c,acc.lookup y=some c->env.cells.lookup y=some c)->∀y c,(ns.foldl (jm env) acc).lookup y=some c->env.cells.lookup y=some c
 | [],acc,h,y,c,e=>h y c e
 | n::ns,acc,h,y,c,e=>by
  refine Hc ns (jm env acc n) (fun z d q=>?_) y c e;unfold jm at q;split at q
  ·split at q
   ·rename_i c' hc';rw[lR] at q;split at q
    ·rename_i hz;have hz':z=n.1:=by simpa using hz
     cases q;rw[hz']; exact hc'
    ·exact h z d q
   ·exact h z d q
  ·exact h z d q
theorem gP{sc:Scope}{env:Env}{y:Str}{c:Addr}(e:(qO sc env).lookup y=some c):env.cells.lookup y=some c:=
 Hc sc.names [] (fun _ _ q=>by simp at q) y c e
theorem Lq{env:Env}{y:Str}{c:Addr}(hc:env.cells.lookup y=some c):∀(ns:List (Str×NameKind))(acc:List (Str×Addr)),acc.lookup y=some c->(ns.foldl (jm env) acc).lookup y=some c
 | [],acc,h=>h
 | n::ns,acc,h=>by
  refine Lq hc ns (jm env acc n) ?_;unfold jm;split
  ·split
   ·rename_i c' hc';rw[lR];split
    ·rename_i hz;have hz':y=n.1:=by simpa using hz
     rw[<- hz',hc] at hc';exact hc'.symm
    ·exact h
   ·exact h
  ·exact h
theorem JK{env:Env}{y:Str}{c:Addr}(hc:env.cells.lookup y=some c):∀(ns:List (Str×NameKind))(acc:List (Str×Addr)),(y,NameKind.free)∈ns->(ns.foldl (jm env) acc).lookup y=some c
 | [],_,h=>by simp at h
 | n::ns,acc,h=>by
  rcases bB.mp h with e | h
  ·subst e;refine Lq hc ns _ ?_;unfold jm;simp[hc]
  ·exact JK hc ns _ h
theorem uN{sc:Scope}{env:Env}{x:Str}{k':NameKind}(h:(relabel sc env).names.lookup x=some k'):∃k,(x,k)∈sc.names/\(k'=k\/(k=.free/\k'=.cell)):=by
 have m:=PySem.mem_of_lookup h;unfold relabel at m;obtain⟨⟨n,k⟩,hm,e⟩:=dZ.mp m;dsimp only at e;split at e
 ·rename_i hc;injection e with e1 e2
  subst e1;refine⟨k,hm,.inr ⟨?_,e2.symm⟩⟩
  have:(k==NameKind.free)=true:=by
   cases hk:(k==NameKind.free) with
   | true=>rfl
   | false=>rw[hk] at hc; simp at hc
  exact beq_iff_eq.mp this
 ·injection e with e1 e2
  subst e1 e2;exact⟨k,hm,.inl rfl⟩
theorem rG{env:Env}{x:Str}(hf:env.scope.kind=.function)(hk:env.kindOf x=some .cell):∀(ns:List (Str×NameKind)),ns.lookup x=some .free ->
  (ns.map fun(y:Str×NameKind)=>if(y.2==.free&&env.scope.kind==.function&&env.kindOf y.1==some .cell) then(y.1,NameKind.cell) else(y.1,y.2)).lookup x=some .cell
 | [],h=>by simp at h
 | (n,k)::r,h=>by
  have ih:=rG hf hk r;rw[gH];cases hx:x==n with
  | true=>
   have e:x=n:=by simpa using hx
   subst e;simp only[lR,beq_self_eq_true] at h;cases h;dsimp only;rw[bh (by simp[hf,hk])]
   simp[lR]
  | false=>
   simp only[lR,hx] at h;dsimp only;split
   ·simp only[lR,hx]; exact ih h
   ·simp only[lR,hx]; exact ih h
def Sx(X:Cx)(N':List Str)(sc:Scope)(fp:List Addr)(s:AB)(H:Hp):Cx where
 prog:=X.prog
 w:=X.w
 K:=X.K
 mg:=X.mg
 base:=X.base
 A:=X.A
 N:=N'
 s₀:=s
 H₀:=H
 env:=compEnvC sc (qO sc X.env) s.heap.objs.size X.env
 outer:=X.stack
 stack:=X.stack
 ex:=fp
 fn:=fun _=>false
 calm:=X.calm
 pn:=[]
 xe:=fun _ _=>False
structure sX(X:Cx)(N':List Str)(js:List Nat)(sc:Scope):Prop where
 kind:sc.kind=.function
 lX:∀y∈sc.names,y.2≠.cell
 names:∀y∈sc.names,y.2=.local->sc.names.lookup y.1=some .local
 clos:closureFor sc X.env=pure (qO sc X.env)
 all:(sc.names.all fun y=>y.2 != .free || (X.env.cells.lookup y.1).isSome)=true
 len:N'.length=js.length+1
 cap:∀(i j:Nat),js[i]?=some j->N'[i+1]?=X.N[j]?
 RL:∀y∈N'.tail,X.env.kindOf y=some .cell/\sc.names.lookup y=some .free
def bQ(js:List Nat)(σ:St):St:=js.map fun j=>(σ[j]?).join
def iB(js:List Nat)(wi:TI)(te:TE):TE:=fun σ H Q=>wi σ H fun J H1=>∀acc,H1 acc=none->∃W:Nat->Nat->List V->Hp->Prop,(∃m,W 0 m [] (upd H1 acc (.lst [])))/\∀i m ys H2,W i m ys H2 ->
 (J.stop i H2/\Q (.ref acc) H2)\/(J.go i H2/\∀x H3,J.Er i H2 x H3->te (some x::bQ js σ) H3 fun y H4=>H4 acc=some (.lst ys)/\ys.length<sizeLine/\∃m',m'<m/\W (i+1) m' (ys++[y]) (upd H4 acc (.lst (ys++[y]))))
def adY:Key->PyData
 | .inl i=>.int i
 | .inr x=>.str x
mutual
def At(H:Hp):PyData->V->Prop
 | .none,v=>v=.non
 | .bool b,v=>v=.bl b
 | .int i,v=>v=.int i
 | .str x,v=>v=.str x
 | .tuple ds,v=>∃a xs,v=.ref a/\H a=some (.tup xs)/\aa H ds xs
 | .list ds,v=>∃a xs,v=.ref a/\H a=some (.lst xs)/\aa H ds xs
 | .dict kvs,v=>∃a es,v=.ref a/\H a=some (.dK es)/\Ed H kvs es
def aa(H:Hp):List PyData->List V->Prop
 | [],xs=>xs=[]
 | d::ds,xs=>∃x r,xs=x::r/\At H d x/\aa H ds r
def Ed(H:Hp):List (PyData×PyData)->List (Key×V)->Prop
 | [],es=>es=[]
 | (k,d)::r,es=>∃q v t,es=(q,v)::t/\k=adY q/\At H d v/\Ed H r t
end
mutual
theorem At.mono{H H':Hp}(m:aK H H'):∀(d:PyData)(v:V),At H d v->At H' d v
 | .none,_,h=>by unfold At at h ⊢; exact h
 | .bool _,_,h=>by unfold At at h ⊢; exact h
 | .int _,_,h=>by unfold At at h ⊢; exact h
 | .str _,_,h=>by unfold At at h ⊢; exact h
 | .tuple ds,v,h=>by
  unfold At at h ⊢;obtain⟨a,xs,e,h1,h2⟩:=h;exact⟨a,xs,e,m _ _ h1,aa.mono m ds xs h2⟩
 | .list ds,v,h=>by
  unfold At at h ⊢;obtain⟨a,xs,e,h1,h2⟩:=h;exact⟨a,xs,e,m _ _ h1,aa.mono m ds xs h2⟩
 | .dict kvs,v,h=>by
  unfold At at h ⊢;obtain⟨a,es,e,h1,h2⟩:=h;exact⟨a,es,e,m _ _ h1,Ed.mono m kvs es h2⟩
theorem aa.mono{H H':Hp}(m:aK H H'):∀(ds:List PyData)(xs:List V),aa H ds xs->aa H' ds xs
 | [],_,h=>by unfold aa at h ⊢; exact h
 | d::ds,xs,h=>by
  unfold aa at h ⊢;obtain⟨x,r,e,h1,h2⟩:=h;exact⟨x,r,e,At.mono m d x h1,aa.mono m ds r h2⟩
theorem Ed.mono{H H':Hp}(m:aK H H'):∀(kvs:List (PyData×PyData))(es:List (Key×V)),Ed H kvs es->Ed H' kvs es
 | [],_,h=>by unfold Ed at h ⊢; exact h
 | (k,d)::r,es,h=>by
  unfold Ed at h ⊢;obtain⟨q,v,t,e,e',h1,h2⟩:=h;exact⟨q,v,t,e,e',At.mono m d v h1,Ed.mono m r t h2⟩
end
theorem aa.length{H:Hp}:∀{ds:List PyData}{xs:List V},aa H ds xs->xs.length=ds.length
 | [],xs,h=>by unfold aa at h; rw[h]; rfl
 | d::ds,xs,h=>by
  unfold aa at h;obtain⟨x,r,e,_,h2⟩:=h;rw[e,fU,fU,aa.length h2]
theorem aa.get{H:Hp}:∀{ds:List PyData}{xs:List V}{i:Nat}{x:V},aa H ds xs->xs[i]?=some x->∃d,ds[i]?=some d/\At H d x
 | [],xs,i,x,h,e=>by unfold aa at h; rw[h] at e; simp at e
 | d::ds,xs,i,x,h,e=>by
  unfold aa at h;obtain⟨y,r,e1,h1,h2⟩:=h;subst e1;cases i with
  | zero=>simp at e; subst e; exact⟨d,rfl,h1⟩
  | succ i=>
   obtain⟨d',q1,q2⟩:=aa.get (i:=i) (x:=x) h2 (by simpa using e)
   exact⟨d',by simpa using q1,q2⟩
theorem aa.getD{H:Hp}:∀{ds:List PyData}{xs:List V}{i:Nat}{d:PyData},aa H ds xs->ds[i]?=some d->∃x,xs[i]?=some x/\At H d x
 | [],xs,i,d,h,e=>by simp at e
 | d'::ds,xs,i,d,h,e=>by
  unfold aa at h;obtain⟨y,r,e1,h1,h2⟩:=h;subst e1;cases i with
  | zero=>simp at e; subst e; exact⟨y,rfl,h1⟩
  | succ i=>
   obtain⟨x,q1,q2⟩:=aa.getD (i:=i) (d:=d) h2 (by simpa using e)
   exact⟨x,by simpa using q1,q2⟩
theorem aa.append{H:Hp}:∀{ds es:List PyData}{xs ys:List V},aa H ds xs->aa H es ys->aa H (ds++es) (xs++ys)
 | [],es,xs,ys,h,q=>by unfold aa at h; subst h; exact q
 | d::ds,es,xs,ys,h,q=>by
  unfold aa at h;obtain⟨x,r,e,h1,h2⟩:=h;subst e;show aa H (d::(ds++es)) (x::(r++ys));unfold aa;exact⟨x,r++ys,rfl,h1,aa.append h2 q⟩
theorem aa.take{H:Hp}:∀{ds:List PyData}{xs:List V}(n:Nat),aa H ds xs->aa H (ds.take n) (xs.take n)
 | ds,xs,0,h=>by simp[aa]
 | [],xs,n+1,h=>by unfold aa at h; subst h; simp[aa]
 | d::ds,xs,n+1,h=>by
  unfold aa at h;obtain⟨x,r,e,h1,h2⟩:=h;subst e;show aa H (d::ds.take n) (x::r.take n);unfold aa;exact⟨x,_,rfl,h1,aa.take n h2⟩
theorem aa.nil{H:Hp}:aa H [] []:=by unfold aa; rfl
theorem aa.cons{H:Hp}{d:PyData}{ds:List PyData}{x:V}{xs:List V}(h1:At H d x)(h2:aa H ds xs):aa H (d::ds) (x::xs):=by
 unfold aa; exact⟨x,xs,rfl,h1,h2⟩
theorem At.tup{H:Hp}{a:Addr}{xs:List V}{ds:List PyData}(h:H a=some (.tup xs))(q:aa H ds xs):At H (.tuple ds) (.ref a):=by
 unfold At; exact⟨a,xs,rfl,h,q⟩
theorem At.lst{H:Hp}{a:Addr}{xs:List V}{ds:List PyData}(h:H a=some (.lst xs))(q:aa H ds xs):At H (.list ds) (.ref a):=by
 unfold At; exact⟨a,xs,rfl,h,q⟩
theorem At.int{H:Hp}(i:Int):At H (.int i) (.int i):=by unfold At; rfl
theorem At.str{H:Hp}(x:Str):At H (.str x) (.str x):=by unfold At; rfl
theorem At.bool{H:Hp}(b:Bool):At H (.bool b) (.bl b):=by unfold At; rfl
theorem aO{H:Hp}{p:Addr}(h:H p=none)(o:HO):aK H (upd H p o):=fun b u q=>by rw[aH (cD q h)]; exact q
def tyD:PyData->String
 | .none=>"NoneType"
 | .bool _=>"bool"
 | .int _=>"int"
 | .str _=>"str"
 | .tuple _=>"tuple"
 | .list _=>"list"
 | .dict _=>"dict"
theorem At.ty{K:Frag}{H:Hp}{d:PyData}{v:V}(h:At H d v):uv K H v (.type (tyD d)):=by
 cases d with
 | none=>unfold At at h; subst h; exact .non
 | bool b=>unfold At at h; subst h; exact .bl b
 | int i=>unfold At at h; subst h; exact .int i
 | str x=>unfold At at h; subst h; exact .str x
 | tuple ds=>unfold At at h; obtain⟨a,xs,e,h1,_⟩:=h; subst e; exact .tup h1
 | list ds=>unfold At at h; obtain⟨a,xs,e,h1,_⟩:=h; subst e; exact .lst h1
 | dict ds=>unfold At at h; obtain⟨a,xs,e,h1,_⟩:=h; subst e; exact .dK h1
def isInt:PyData->Bool
 | .int _=>true
 | .bool _=>true
 | _=>false
def isStr:PyData->Bool
 | .str _=>true
 | _=>false
theorem UT(K:Frag)(d:PyData):kitOne K (.type (tyD d)) (.type "str")=some (isStr d):=by cases d <;> kernel_rfl
section
variable{X:Cx}
def Xh(T:String)(f:PyData->Bool):List V->Hp->VK->Prop:=fun vs H Q=>∃v d,vs=[v,.ty T]/\At H d v/\Q (.bl (f d)) H
theorem Q6{T:String}{f:PyData->Bool}(hf:∀K d,kitOne K (.type (tyD d)) (.type T)=some (f d)):dG X (.builtin "isinstance") (Xh T f):=by
 symm;intro vs us Q I r h;obtain⟨v,d,rfl,hv,q⟩:=h;obtain⟨u,t,rfl,ru,rt⟩:=r.two;cases(show t=Value.type T from rt);exact NB I ru (hv.ty (K:=X.K)) (hf X.K d) fun tk=>⟨.bl (f d),H,I.tok tk,rfl,q⟩
theorem U4:dG X (.builtin "isinstance") (Xh "str" isStr):=Q6 UT
theorem J6:∀{bs:List Bool}{us:List AA},Vals (bs.map V.bl) us->us=bs.map Value.bool
 | [],_,.nil=>rfl
 | b::bs,_,.cons r t=>by
  cases(show _=Value.bool b from r);rw[J6 t]; rfl
theorem range_all(bs:List Bool):(List.range bs.length).all (fun i=>bs.getD i false)=bs.all id:=by
 rw[Ga,pK,pK];constructor
 ·intro h b hb;obtain⟨i,hi,rfl⟩:=List.mem_iff_getElem.mp hb;have:=h i (List.mem_range.mpr hi);simpa[ig,hi] using this
 ·intro h i hi;have hi':=List.mem_range.mp hi;have:=h bs[i] (mZ hi');simpa[ig,hi'] using this
theorem uo(hc:X.calm=true):dG X (.builtin "all") (fun vs H Q=>∃(p:Addr)(bs:List Bool),vs=[.ref p]/\H p=some (.lst (bs.map V.bl))/\Q (.bl (bs.all id)) H):=by
 symm;intro vs us Q I r h;obtain⟨p,bs,rfl,hp,q⟩:=h;obtain⟨u,rfl,ru⟩:=r.one;cases ru;obtain⟨z,its,n,rv,e⟩:=I.hok p _ hp;have e2:=J6 rv;subst e2;have hl:s.heap.IsList p (bs.map Value.bool).toArray:=⟨_,e,rfl,n,rfl⟩;have lt:p<s.heap.objs.size:=bH e;refine call_all_walk (zf hl ?_);refine(Sd _ _ _ _ _ _ (fun i=>bs.getD i false) ⟨rfl,Walks.list (A:=X.A.in1) (I.ok.hd hc) _ p (dJ lt) _,⟨⟨_,cO _ rfl,rfl,rfl⟩,hl.push _⟩,fun i v s' Q' E' hv hq=>?_,fun h' tk hk=>?_⟩)
 ·have hv':(bs.map Value.bool).toArray[i]?=some v:=hv
  have:v=.bool (bs.getD i false):=by
   simp only[List.getElem?_toArray,cA] at hv';cases q:bs[i]? with
   | none=>rw[q] at hv'; simp at hv'
   | some b=>rw[q] at hv'; simp at hv'; simp[ig,q,<- hv']
  rw[this];exact IW hq
 ·have e3:(List.range (bs.map Value.bool).toArray.size).all (fun i=>bs.getD i false)=bs.all id:=by
   rw[fC,bN]; exact range_all bs
  refine⟨.bl (bs.all id),H,I.kept (t':=tk) (fun b o eb=>?_),by rw[<- e3]; rfl,q⟩
  exact hk b o (by simpa using dJ (bH eb)) (fB _ eb)
theorem Gr:∀(ns:List Int),preSum (fun i=>ns.getD i 0) ns.length=ns.sum:=by
 have key:∀(ns:List Int)(k:Nat),k<=ns.length->preSum (fun i=>ns.getD i 0) k=(ns.take k).sum:=by
  intro ns k
  induction k with
  | zero=>intro _; rfl
  | succ k ih=>
   intro hk
   have e:ns.take (k+1)=ns.take k++[ns.getD k 0]:=by
    rw[List.take_succ,cT ∅]
    simp[ig,cT (show k<ns.length by omega)]
   show preSum _ k+ns.getD k 0=_;rw[ih ∅,e,List.sum_append]
   simp
 intro ns;rw[key ns ns.length (bw _),rJ]
theorem Lf{ns:List Int}{its:List AA}(r:Vals (ns.map V.int) its){i:Nat}{v:AA}(h:its.toArray[i]?=some v):∃t,v=.int (ns.getD i 0) t:=by
 have h':its[i]?=some v:=by simpa using h
 have hi:i<its.length:=(jF.mp h').1;have hl:=r.length;rw[bN] at hl;obtain⟨u,hu,ru⟩:=r.get (i:=i) (x:=V.int (ns[i]'∅)) (by rw[cA,cT ∅]; rfl)
 rw[h'] at hu;cases hu;obtain⟨t,e⟩:=ru;exact⟨t,by rw[e,ig,cT ∅]; rfl⟩
theorem dH(hc:X.calm=true):dG X (.builtin "sum") (fun vs H Q=>∃(p:Addr)(ns:List Int),vs=[.ref p]/\(H p=some (.lst (ns.map V.int))\/H p=some (.tup (ns.map V.int)))/\Q (.int ns.sum) H):=by
 symm;intro vs us Q I r h;obtain⟨p,ns,rfl,hp,q⟩:=h;obtain⟨u,rfl,ru⟩:=r.one;cases ru
 have fin:∀{h':Heap}{tk:Nat}{t':Tok}{o:Obj},(∀b o',b∉[s.heap.objs.size]->(s.heap.push o).get? b=some o'->h'.get? b=some o')->EP X ae σ Q (.int (preSum (fun i=>ns.getD i 0) ns.length) t') { s with heap:=h',toks:=tk }:=fun {h' tk t' o} hk=>
  ⟨.int ns.sum,H,I.kept (t':=tk) (fun b o' eb=>hk b o' (by simpa using dJ (bH eb)) (fB _ eb)),⟨t',by rw[Gr]⟩,q⟩
 rcases hp with hp | hp
 ·obtain⟨z,its,n,rv,e⟩:=I.hok p _ hp;have hl:s.heap.IsList p its.toArray:=⟨_,e,rfl,n,rfl⟩;have lt:p<s.heap.objs.size:=bH e;have hlen:=rv.length;rw[bN] at hlen;refine call_sum_walkG (zf hl ?_);refine(Sd _ _ _ _ _ _ (fun i=>ns.getD i 0) ⟨rfl,Walks.list (A:=X.A.in1) (I.ok.hd hc) _ p (dJ lt) _,⟨⟨_,cO _ rfl,rfl,rfl⟩,hl.push _⟩,fun b hb=>?_,fun i v hv=>Lf rv hv,fun h' tk t' hk=>?_⟩)
  ·show b<(s.heap.push _).objs.size;rw[fQ];rcases bB.mp hb with rfl | hb
   ·exact FJ _
   ·rw[fV.mp hb]; exact FP lt
  ·rw[fC,<- hlen]; exact fin hk
 ·obtain⟨z,its,rv,ht⟩:=I.hok p _ hp;have ht':s.heap.IsTuple p its.toArray:=ht;have lt:p<s.heap.objs.size:=by obtain⟨o,e,_⟩:=ht; exact bH e
  have hlen:=rv.length;rw[bN] at hlen;refine call_sum_walkG (wpAny_pyIter_tuple ht' ?_);refine(Sd _ _ _ _ _ _ (fun i=>ns.getD i 0) ⟨rfl,Walks.tuple (A:=X.A.in1) (I.ok.hd hc) _ p (dJ lt) _,⟨⟨_,cO _ rfl,rfl,rfl⟩,?_⟩,fun b hb=>?_,fun i v hv=>Lf rv hv,fun h' tk t' hk=>?_⟩)
  ·obtain⟨o,e,c⟩:=ht';exact⟨o,fB _ e,c⟩
  ·show b<(s.heap.push _).objs.size;rw[fQ];rcases bB.mp hb with rfl | hb
   ·exact FJ _
   ·rw[fV.mp hb]; exact FP lt
  ·rw[fC,<- hlen]; exact fin hk
theorem Br:dG X (.type "int") (fun vs H Q=>∃(b:Bool),vs=[.bl b]/\Q (.int (if b then 1 else 0)) H):=by
 symm;intro vs us Q I r h;obtain⟨b,rfl,q⟩:=h;obtain⟨u,rfl,ru⟩:=r.one;cases(show u=Value.bool b from ru);exact call_int_bool ⟨.int (if b then 1 else 0),H,I.tok _,⟨_,rfl⟩,q⟩
end
mutual
theorem nR{P:AC}{w:World}{H:Hp}{h:Heap}(ok:jK P w H h):∀(d:PyData)(v:V)(u:AA),At H d v->RelV v u->d.hasDict=false->∃as,Reads h u d as
 | .none,v,u,a,r,_=>by unfold At at a; subst a; cases r; exact⟨_,.none⟩
 | .bool b,v,u,a,r,_=>by unfold At at a; subst a; cases r; exact⟨_,.bool b⟩
 | .int i,v,u,a,r,_=>by unfold At at a; subst a; obtain⟨t,rfl⟩:=r; exact⟨_,.int i t⟩
 | .str x,v,u,a,r,_=>by unfold At at a; subst a; obtain⟨t,rfl⟩:=r; exact⟨_,.str x t⟩
 | .tuple ds,v,u,a,r,nd=>by
  unfold At at a;obtain⟨p,xs,e,hp,ha⟩:=a;subst e;cases r;obtain⟨_,its,rv,o,e1,e2,n,e3⟩:=ok p _ hp;obtain⟨as,ra⟩:=tX ok ds xs its ha rv (by simpa[PyData.hasDict] using nd)
  exact⟨_,.tuple e1 e2 e3 (by simpa using ra)⟩
 | .list ds,v,u,a,r,nd=>by
  unfold At at a;obtain⟨p,xs,e,hp,ha⟩:=a;subst e;cases r;obtain⟨_,its,n,rv,e1⟩:=ok p _ hp;obtain⟨as,ra⟩:=tX ok ds xs its ha rv (by simpa[PyData.hasDict] using nd)
  exact⟨_,.list e1 rfl rfl (by simpa using ra)⟩
 | .dict kvs,v,u,a,r,nd=>by simp[PyData.hasDict] at nd
theorem tX{P:AC}{w:World}{H:Hp}{h:Heap}(ok:jK P w H h):∀(ds:List PyData)(xs:List V)(us:List AA),aa H ds xs->Vals xs us->PyData.hasDictAll ds=false->∃as,ReadsAll h us ds as
 | [],xs,us,a,r,_=>by unfold aa at a; subst a; cases r; exact⟨_,.nil⟩
 | d::ds,xs,us,a,r,nd=>by
  unfold aa at a;obtain⟨x,t,e,h1,h2⟩:=a;subst e;have nd':d.hasDict=false/\PyData.hasDictAll ds=false:=by simpa[PyData.hasDictAll] using nd
  cases r with
  | cons r1 r2=>
   obtain⟨as,q1⟩:=nR ok d x _ h1 r1 nd'.1;obtain⟨bs,q2⟩:=tX ok ds t _ h2 r2 nd'.2;exact⟨_,.cons q1 q2⟩
end
structure ag6(d:PyData):Prop where
 can:d.showable=true
 nod:d.hasDict=false
 len:d.shown.length<=sizeLine
 dep:d.depth<=60
section
variable{X:Cx}
def Gi(mg:Str->Option AA)(x:Str)(i:Int):Prop:=∃t,mg x=some (.int i t)
theorem CQ{x:Str}{i:Int}{pos:Pos}(h:Gi X.mg x i)(hg: ~~~(Gl X x))(hd:((x==("__debug__" : Str))=false)⁻¹):PE X (.Name x pos) (tC (.int i)):=by
 obtain⟨t,ht⟩:=h;exact CV hg ht ⟨t,rfl⟩ hd
structure Ct(P:AC)(w:World)(K:Frag)(mg:Str->Option AA)(base:Heap)(k:Nat)(x:Str)(ps:List Str)(sp:Sp) where
 f:Addr
 fd:FuncData
 G:bF P w K mg base iy k f fd ps sp
 kp:keepIn K (.ref f)=true
 b:Binds K fd ps []
 m:mg x=some (.ref f)
def Ct.mono{P:AC}{w:World}{K:Frag}{mg:Str->Option AA}{base:Heap}{j k:Nat}{x:Str}{ps:List Str}{sp:Sp}(c:Ct P w K mg base j x ps sp)(h:j<=k):Ct P w K mg base k x ps sp:={ c with G:=c.G.mono h }
theorem aaJ{k:Nat}{x:Str}{ps:List Str}{sp:Sp}{e:Expr}{es:List Expr}{t:TA}{p pos:Pos}(c:Ct X.prog X.w X.K X.mg X.base k x ps sp)(hr:eG k X.A)(ha:PA X (e::es) t)(hg: ~~~(Gl X x))
  (hdb:((x==("__debug__" : Str))=false)⁻¹) (he: ~~~(starEach (e::es) X.env=(false,eval e X.env)::starEach es X.env)) (hpl: ~~~((backTo pos (starEach es X.env)).any (·.1)=false)) :
  PE X (.Call (.Name x p) (e::es) [] pos) (iU sp [] E0 t):=KJ c.G hr hg c.m c.kp c.b .nil Ay ha hdb he hpl
end
theorem jE{v:V}{σ:St}{H:Hp}{Q:VK}:mU 0 (some v::σ) H Q=Q v H:=rfl
theorem lJ{i:Nat}{o:Option V}{σ:St}{H:Hp}{Q:VK}:mU (i+1) (o::σ) H Q=mU i σ H Q:=rfl
theorem lM{v:V}{o:Option V}{σ:St}:(o::σ).set 0 (some v)=some v::σ:=rfl
theorem lL{i:Nat}{v:V}{o:Option V}{σ:St}:(o::σ).set (i+1) (some v)=o::σ.set i (some v):=rfl
theorem jc{t:TG}{u:R5}{v:V}{r:List V}{σ:St}{H:Hp}{Q:St->Hp->Prop}:mR t u (v::r) σ H Q=t v σ H fun σ' H'=>u r σ' H' Q:=rfl
theorem lN{σ:St}{H:Hp}{Q:St->Hp->Prop}:GZ [] σ H Q=Q σ H:=rfl
theorem dW{b:Bool}{A B:Prop}(h1:b=true->A)(h2:b=false->B):if b=true then A else B:=by
 cases b
 ·rw[aX ⋯]; exact h2 rfl
 ·rw[bh rfl]; exact h1 rfl
theorem jW{i j:Int}{H:Hp}{Q:VK}:Xi (.int i) (.int j) H Q=Q (.bl (decide (i=j))) H:=by
 unfold Xi MN; simp
theorem qz{i j:Int}{H:Hp}{Q:VK}:rNe (.int i) (.int j) H Q=Q (.bl (!decide (i=j))) H:=by
 unfold rNe MN; simp
theorem qD{i j:Str}{H:Hp}{Q:VK}:Xi (.str i) (.str j) H Q=Q (.bl (decide (i=j))) H:=by
 unfold Xi MN; simp
theorem nU{i j:Str}{H:Hp}{Q:VK}:rNe (.str i) (.str j) H Q=Q (.bl (!decide (i=j))) H:=by
 unfold rNe MN; simp
theorem lO{i:Int}{P:Int->Prop}:(∃k,[V.int i]=[V.int k]/\P k)=P i:=by
 simp
theorem lQ{i:Bool}{P:Bool->Prop}:(∃k,[V.bl i]=[V.bl k]/\P k)=P i:=by
 simp
theorem jd{i j:Int}{P:Int->Int->Prop}:(∃a b,[V.int i,V.int j]=[V.int a,V.int b]/\P a b)=P i j:=by
 refine propext ⟨?_,fun h=>⟨i,j,rfl,h⟩⟩;rintro⟨a,b,e,h⟩;cases e;exact h
theorem lK{b:Bool}{P:Bool->Prop}:(∃k,V.bl b=V.bl k/\P k)=P b:=by
 simp
theorem qC{i:Int}{P:Int->Prop}:(∃k,V.int i=V.int k/\P k)=P i:=by
 simp
theorem xr{i j:Int}{P:Int->Int->Prop}:(∃a b,V.int i=V.int a/\V.int j=V.int b/\P a b)=P i j:=by
 simp
theorem uV{α β:Type}{g:β->α->β}{f:α->β->Sem (ForInStep β)}:∀(l:List α)(c:β),(∀x∈l,∀c,f x c=pure (.yield (g c x)))->forIn l c f=(pure (l.foldl g c):Sem β)
 | [],c,_=>rfl
 | x::l,c,h=>by
  rw[za,h x dg c,pure_bind];exact uV l (g c x) fun y hy=>h y (cI _ hy)
theorem jl{sc:Scope}{env:Env}(h:(sc.names.all fun y=>y.2 != .free || (env.cells.lookup y.1).isSome)=true):closureFor sc env=pure (qO sc env):=by
 unfold closureFor qO;dsimp only;rw[uV (g:=jm env) sc.names [] (fun y hy c=>?_)]
 ·rfl
 obtain⟨n,k⟩:=y;have a:=pK.mp h _ hy;dsimp only;unfold jm;dsimp only;cases hk:(k==NameKind.free) with
 | false=>simp
 | true=>
  have hk':k=.free:=beq_iff_eq.mp hk;subst hk';have a':(env.cells.lookup n).isSome=true:=by simpa using a
  obtain⟨c',hc'⟩:=Qq.mp a';simp[cellOf,hc']
theorem oE{sc:Scope}(h:(sc.names.all fun y=>y.2 != .local || sc.names.lookup y.1==some .local)=true):∀y∈sc.names,y.2=.local->sc.names.lookup y.1=some .local:=fun y hy e=>by
 have a:=pK.mp h y hy;rw[e] at a;simpa using a
theorem sX.Ux{X:Cx}{x:Str}{sc:Scope}(k: ~~~(sc.kind=.function))(n: autoParam ((sc.names.all fun y=>y.2 != .cell&&y.2 != .free)=true) z_h._auto_1)(l: autoParam ((sc.names.all fun y=>y.2 != .local || sc.names.lookup y.1==some .local)=true) z_h._auto_1):sX X [x] [] sc:=by
 have n':∀y∈sc.names,y.2≠.cell/\y.2≠.free:=fun y hy=>by have:=pK.mp n y hy; simpa using this
 have al:(sc.names.all fun y=>y.2 != .free || (X.env.cells.lookup y.1).isSome)=true:=pK.mpr fun y hy=>by simp[(n' y hy).2]
 exact⟨k,fun y hy=>(n' y hy).1,oE l,jl al,al,rfl,fun i j h=>by simp at h,fun y h=>by simp at h⟩
theorem sX.mk1{X:Cx}{x y:Str}{sc:Scope}{j:Nat}(hj: ~~~(X.N[j]?=some y))(k: ~~~(sc.kind=.function))(n: autoParam ((sc.names.all fun y=>y.2 != .cell)=true) z_h._auto_1)
  (l: autoParam ((sc.names.all fun y=>y.2 != .local || sc.names.lookup y.1==some .local)=true) z_h._auto_1) (al: ~~~((sc.names.all fun y=>y.2 != .free || (X.env.cells.lookup y.1).isSome)=true))
  (k1: ~~~(X.env.kindOf y=some .cell)) (k2: ~~~(sc.names.lookup y=some .free)):sX X [x,y] [j] sc:=by
 have n':∀y∈sc.names,y.2≠.cell:=fun y hy=>by have:=pK.mp n y hy; simpa using this
 refine⟨k,n',oE l,jl al,al,rfl,fun i j' h=>?_,fun z h=>?_⟩
 ·cases i with
  | zero=>simp at h; subst h; exact hj.symm
  | succ i=>simp at h
 ·have e:z=y:=by simpa using h
  subst e; exact⟨k1,k2⟩
theorem sX.mk2{X:Cx}{x y z:Str}{sc:Scope}{j j2:Nat}(hj: ~~~(X.N[j]?=some y))(hj2: ~~~(X.N[j2]?=some z))(k: ~~~(sc.kind=.function))(n: autoParam ((sc.names.all fun y=>y.2 != .cell)=true) z_h._auto_1)
  (l: autoParam ((sc.names.all fun y=>y.2 != .local || sc.names.lookup y.1==some .local)=true) z_h._auto_1) (al: ~~~((sc.names.all fun y=>y.2 != .free || (X.env.cells.lookup y.1).isSome)=true))
  (k1: ~~~(X.env.kindOf y=some .cell)) (k2: ~~~(sc.names.lookup y=some .free)) (k3: ~~~(X.env.kindOf z=some .cell)) (k4: ~~~(sc.names.lookup z=some .free)):sX X [x,y,z] [j,j2] sc:=by
 have n':∀y∈sc.names,y.2≠.cell:=fun y hy=>by have:=pK.mp n y hy; simpa using this
 refine⟨k,n',oE l,jl al,al,rfl,fun i j' h=>?_,fun v h=>?_⟩
 ·match i,h with
  | 0,h=>simp at h; subst h; exact hj.symm
  | 1,h=>simp at h; subst h; exact hj2.symm
  | i+2,h=>simp at h
 ·have e:v=y\/v=z:=by simpa using h
  rcases e with e | e
  ·subst e; exact⟨k1,k2⟩
  ·subst e; exact⟨k3,k4⟩
def bO:Expr->Bool
 | .Starred _ _=>false
 | _=>true
theorem bW{env:Env}{e:Expr}{es:List Expr}(h:bO e=true):starEach (e::es) env=(false,eval e env)::starEach es env:=by
 cases e <;> first | rfl | exact absurd h (by simp[bO])
theorem b8{env:Env}{pos:Pos}:∀{es:List Expr},es.all bO=true->(backTo pos (starEach es env)).any (·.1)=false
 | [],_=>rfl
 | e::es,h=>by
  have h':bO e=true/\es.all bO=true:=by simpa using h
  rw[bW h'.1];show(false || (backTo pos (starEach es env)).any (·.1))=false;rw[b8 h'.2]; rfl
section
variable{X:Cx}{x:Str}{p pos:Pos}{e:Expr}{es:List Expr}{te:TE}{t:TA}{id T:String}{r:List V->Hp->VK->Prop}
theorem ak(ha:PE X e te)(hr:PA X es t)(h: ~~~(bO e=true)):PA X (e::es) (iz te t):=Uk ha hr (bW h)
theorem pf{k:Nat}{ps:List Str}{sp:Sp}(c:Ct X.prog X.w X.K X.mg X.base k x ps sp)(hr:eG k X.A)(ha:PA X (e::es) t)(hg: ~~~(Gl X x))(hdb:((x==("__debug__" : Str))=false)⁻¹)(h1: ~~~(bO e=true))(h2: ~~~(es.all bO=true)) :
  PE X (.Call (.Name x p) (e::es) [] pos) (iU sp [] E0 t):=aaJ c hr ha hg hdb (bW h1) (b8 h2)
theorem pb(hc:dG X (.builtin id) r)(hm:X.mg x=none)(hv:bootBuiltins x=some (.builtin id))(ha:PA X (e::es) t)(hg: ~~~(Gl X x))(hn:(x ≠ "__name__")⁻¹)(hdb:((x==("__debug__" : Str))=false)⁻¹)
  (h1: ~~~(bO e=true)) (h2: ~~~(es.all bO=true)):PE X (.Call (.Name x p) (e::es) [] pos) (Ov r t):=QJ hc hg hm hv ha hn hdb (bW h1) (b8 h2)
theorem pt(hc:dG X (.type T) r)(hm:X.mg x=none)(hv:bootBuiltins x=some (.type T))(ha:PA X (e::es) t)(hg: ~~~(Gl X x))(hn:(x ≠ "__name__")⁻¹)(hdb:((x==("__debug__" : Str))=false)⁻¹)
  (h1: ~~~(bO e=true)) (h2: ~~~(es.all bO=true)):PE X (.Call (.Name x p) (e::es) [] pos) (Ov r t):=M8 hc hg hm hv ha hn hdb (bW h1) (b8 h2)
end
end _L
namespace HT
open PySem PyProof.Rows
section
variable{prog:AC}{w:World}{A:Around}{E:AA->AB->Prop}{s:AB}
theorem rW{t sl:Addr}{items:Array AA}{vl vu:AA}{lo hi:Option Int}{Q:AA->AB->Prop}(ht:IsTup s.heap t items)(hs:s.heap.IsSliceOf sl vl vu .none)(pl:IsPart vl lo)(pu:IsPart vu hi)
  (hw1:fM items.size 0 lo=0) (hw2:fM items.size items.size hi=items.size) (h:Q (.ref t) s):wpAny (model prog w) A (getItem (.ref t) (.ref sl)) Q E s:=by
 obtain⟨os,hos,hcs,hds⟩:=id hs;have tyS:s.TypeIs (.ref sl) "slice" := ⟨os,hos,hcs⟩;unfold getItem
 try with_reducible refine pJ ?_
 first | refine aN (bV ?_) | skip
 refine aN (wpAny_sequenceKey ht.typeIs ⋯ ?_)
 refine aN (FT (name:=Str.ofString "__getitem__") ht.typeIs PyProof.Rows.slot_tuple_getitem (zb PyProof.Rows.slot_tuple_getitem ht.typeIs entry_tuple_getitem ?_ (args_tuple_getitem _ _)));show wpAny _ _ (Builtin.Tuple.tupleItemsOf (.ref t) >>= _) _ _ s;refine aN (tupleItemsOf_ ht ?_);refine aN (FZ tyS ?_);rw[bh ⋯]
 refine aN (kj hs pl pu ?_)
 have yes:(((fM items.size 0 lo:Nat):Int)==0&&(1:Int)==1&&(fM items.size items.size hi-fM items.size 0 lo)==items.size)=true:=by
  rw[hw1,hw2]; simp
 show wpAny _ _ (if(((fM items.size 0 lo:Nat):Int)==0&&(1:Int)==1&&(fM items.size items.size hi-fM items.size 0 lo)==items.size)=true then _ else _) _ _ s
 rw[bh yes]
 have ex:∀{R:Bool->AB->Prop},R true s->wpAny (model prog w) A.in1 (Builtin.Tuple.tupleIsExact (.ref t)) R E s:=fun {R} q=>by
  unfold Builtin.Tuple.tupleIsExact;refine aN (FZ ht.typeIs (bV ?_));rw[beq_self_eq_true];exact q
 refine aN (ex ?_);rw[bh rfl];exact aN (yW (bV ⟨_,rfl,bV h⟩))
end
end HT
namespace _L
open PySem PySem.Spec PyProof.Rows
theorem qg:bootBuiltins "isinstance" = some (.builtin "isinstance"):=by decide +kernel
theorem dU:bootBuiltins "len" = some (.builtin "len"):=by decide +kernel
theorem JR:bootBuiltins "all" = some (.builtin "all"):=by decide +kernel
theorem j6:bootBuiltins "sum" = some (.builtin "sum"):=by decide +kernel
theorem RX:bootBuiltins "abs" = some (.builtin "abs"):=by decide +kernel
theorem jt:bootBuiltins "min" = some (.builtin "min"):=by decide +kernel
theorem oW:bootBuiltins "max" = some (.builtin "max"):=by decide +kernel
theorem RW:bootBuiltins "int" = some (.type "int"):=by decide +kernel
theorem Yy:bootBuiltins "str" = some (.type "str"):=by decide +kernel
theorem my:bootBuiltins "list" = some (.type "list"):=by decide +kernel
theorem sU:bootBuiltins "tuple" = some (.type "tuple"):=by decide +kernel
theorem Vo:bootBuiltins "dict" = some (.type "dict"):=by decide +kernel
theorem RV:bootBuiltins "range" = some (.type "range"):=by decide +kernel
theorem DY:bootBuiltins "enumerate" = some (.type "enumerate"):=by decide +kernel
theorem JQ:bootBuiltins "zip" = some (.type "zip"):=by decide +kernel
section
variable{X:Cx}
theorem pty{x:Str}{T:String}{pos:Pos}(hg:Gl X x)(hm:X.mg x=none)(hv:bootBuiltins x=some (.type T))(hn:(x ≠ "__name__")⁻¹)(hd:((x==("__debug__" : Str))=false)⁻¹):PE X (.Name x pos) (tC (.ty T)):=
 Ui (v:=.ty T) hg hm hv rfl hn hd
def adx(K:Frag):List V->Hp->VK->Prop:=fun vs H Q=>∃(p:Addr)(ys:List V),vs=[.ref p]/\(bT K H p ys\/fK K H p ys)/\Q (.int ys.length) H
theorem cB{K:Frag}(hK:X.K=K):dG X (.builtin "len") (adx K):=by
 subst hK;exact DN
def adp:V->Option Int->Option Int->Hp->VK->Prop:=fun x lo hi H Q=>∃(a:Addr)(xs:List V),x=.ref a/\H a=some (.tup xs)/\∀p H',aK H H'->H' p=some (.tup (vP xs lo hi))->Q (.ref p) H'
theorem jz:YG X adp:=by
 symm;intro x v vl vu lo hi sl Q I rx hs pl pu h;obtain⟨a,xs,e,hx,q⟩:=h;by_cases hw:HT.fM xs.length 0 lo=0/\HT.fM xs.length xs.length hi=xs.length
 ·subst e;cases rx;obtain⟨its,r,ht,hz⟩:=I.tuple (fK.of (K:=X.K) hx);have hlen:its.toArray.size=xs.length:=by rw[fC]; exact r.length.symm
  refine⟨"tuple",_,PyProof.Rows.slot_tuple_getitem.lookup,ht.typeIs,?_⟩;refine HT.rW ht hs pl pu (by rw[hlen]; exact hw.1) (by rw[hlen]; exact hw.2) ⟨.ref a,H,I,rfl,q a H (aK.refl H) ?_⟩
  rw[hx];unfold vP;rw[hw.1,hw.2,List.drop_zero,Nat.sub_zero,rJ]
 ·exact Xf ae s σ H x v vl vu lo hi sl Q I rx hs pl pu ⟨a,xs,e,fK.of hx,hw,fun p hp=>q p _ (aO hp _) aA⟩
def aat:R2:=fun x y H Q=>∃(a b:Addr)(xs ys:List V),x=.ref a/\y=.ref b/\H a=some (.tup xs)/\H b=some (.tup ys)/\xs.length+ys.length<=sizeLine/\∀p H',aK H H'->H' p=some (.tup (xs++ys))->Q (.ref p) H'
theorem oZ:m7 X (binaryOp .Add) aat:=by
 symm;intro x y v u Q I rx ry h;obtain⟨a,b,xs,ys,e1,e2,ha,hb,hz,q⟩:=h;by_cases hx:xs=[]
 ·subst hx e1 e2;cases rx;cases ry;obtain⟨its,r1,p1,_⟩:=I.tuple (fK.of (K:=X.K) ha);obtain⟨its2,r2,p2,_⟩:=I.tuple (fK.of (K:=X.K) hb);cases r1;obtain⟨⟨cls,dd,data,sl⟩,ho,hc,n,hd⟩:=id p1;obtain⟨⟨cls2,dd2,data2,sl2⟩,ho2,hc2,n2,hd2⟩:=id p2;simp only at hc hd hc2 hd2;subst hc hd hc2 hd2;exact concat_meets ⟨_,ho,rfl⟩ ⟨_,ho2,rfl⟩ noFill_tuple_add seq_tuple_add PySem.F.slot_tuple_add PySem.F.entry_tuple_add (PySem.F.args_tuple_add_2 _ _) (tuple_addW0 a b _ _ n n2 dd dd2 sl sl2 (by rfl)) ⟨ho,ho2,⟨.ref b,H,I,rfl,q b H (aK.refl H) hb⟩⟩
 ·refine Ul ae s σ H x y v u Q I rx ry ⟨a,b,xs,ys,e1,e2,fK.of ha,fK.of hb,hx,hz,fun z=>?_,fun _ p hp=>q p _ (aO hp _) aA⟩;subst z;exact q a H (aK.refl H) (by rw[ha,qF])
def yV:R2:=fun x y H Q=>∃(p:Addr)(xs:List V)(i:Int)(v:V),x=.ref p/\y=.int i/\(H p=some (.lst xs)\/H p=some (.tup xs))/\yN xs i=some v/\Q v H
theorem aP:OD X yV:=by
 have h:=(Ld (X:=X)).or X_;refine .mk ?_;intro a b ae s σ H x y v u Q I rx ry q;obtain⟨p,xs,i,z,e1,e2,hp,ha,q⟩:=q;intro hs;refine h a b ae s σ H x y v u Q I rx ry ?_ hs;rcases hp with hp | hp
 ·exact .inl ⟨p,xs,i,z,e1,e2,bT.of hp,ha,q⟩
 ·exact .inr ⟨p,xs,i,z,e1,e2,fK.of hp,ha,q⟩
theorem Ix.tup{a:Addr}{xs:List V}{i:Int}{v:V}{H:Hp}{Q:VK}(h:H a=some (.tup xs))(e:yN xs i=some v)(q:Q v H):yV (.ref a) (.int i) H Q:=⟨a,xs,i,v,rfl,rfl,.inr h,e,q⟩
theorem Ix.lst{a:Addr}{xs:List V}{i:Int}{v:V}{H:Hp}{Q:VK}(h:H a=some (.lst xs))(e:yN xs i=some v)(q:Q v H):yV (.ref a) (.int i) H Q:=⟨a,xs,i,v,rfl,rfl,.inl h,e,q⟩
theorem Yv{js:List Nat}{ta:TA}{te:TE}{σ:St}{H:Hp}{Q:VK}{n:Nat}(hl:∀R:List V->Hp->Prop,R [.int n] H->ta σ H R)(hn:n<=1000000)
  (h:∀acc,H acc=none->∃Pv:Nat->List V->Hp->Prop,Pv 0 [] (upd H acc (.lst [])) /\
   (∀i ys H',i<n->Pv i ys H'->te (some (.int (0+(i:Nat)))::bQ js σ) H' fun y dF=>dF acc=some (.lst ys)/\ys.length<sizeLine/\Pv (i+1) (ys++[y]) (upd dF acc (.lst (ys++[y])))) /\
   ∀ys H',Pv n ys H'->Q (.ref acc) H'):iB js (GR ta) te σ H Q:=by
 refine hl _ ⟨n,rfl,∅,∅,fun acc hacc=>?_⟩
 obtain⟨Pv,h0,hs,hd⟩:=h acc hacc;have en:((n:Int)).toNat=n:=xF n;rw[en];refine⟨fun i m ys H'=>m=n-i/\i<=n/\Pv i ys H',⟨n,rfl,gC _,h0⟩,?_⟩;rintro i m ys H2 ⟨rfl,hi,p⟩;by_cases hlt:i<n
 ·refine .inr ⟨hlt,fun x H3 y=>?_⟩;obtain⟨e,y⟩:=y;subst e y;have VD:=hs i ys _ hlt p
  have fe:(fun(y:V)(dF:Hp)=>dF acc=some (.lst ys)/\ys.length<sizeLine/\Pv (i+1) (ys++[y]) (upd dF acc (.lst (ys++[y]))))=fun y H4=>H4 acc=some (.lst ys)/\ys.length<sizeLine/\∃m',m'<n-i/\(m'=n-(i+1)/\i+1<=n/\Pv (i+1) (ys++[y]) (upd H4 acc (.lst (ys++[y])))):=by
   funext y dF
   refine propext ⟨fun⟨a,b,c⟩=>⟨a,b,_,∅,rfl,hlt,c⟩,fun⟨a,b,m',_,_,_,c⟩=>⟨a,b,c⟩⟩
  rw[fe] at VD;exact VD
 ·have e:i=n:=by omega
  subst e;exact .inl ⟨bw _,hd ys _ p⟩
theorem pH:dG X (.type "tuple") (fun vs H Q=>∃(p:Addr)(ys:List V),vs=[.ref p]/\H p=some (.lst ys)/\∀l,H l=none->Q (.ref l) (upd H l (.tup ys))):=by
 symm;intro vs us Q I r h;obtain⟨p,ys,e,hp,q⟩:=h;exact zT ae s σ H vs us Q I r ⟨p,ys,e,.inl ⟨bT.of hp,q⟩⟩
theorem Oc:dG X (.type "list") (fun vs H Q=>∃(p:Addr)(ys:List V),vs=[.ref p]/\H p=some (.tup ys)/\∀l,H l=none->Q (.ref l) (upd H l (.lst ys))):=by
 symm;intro vs us Q I r h;obtain⟨p,ys,e,hp,q⟩:=h;exact sE ae s σ H vs us Q I r ⟨p,ys,e,.inr (fK.of hp),q⟩
def uG(t:TA):TE:=fun σ H Q=>t σ H fun xs H1=>xs.length<=sizeLine/\∀p H',H1 p=none->aK H1 H'->H' p=some (.lst xs)->Q (.ref p) H'
def uy(t:TA):TE:=fun σ H Q=>t σ H fun xs H1=>xs.length<=sizeLine/\∀p H',H1 p=none->aK H1 H'->H' p=some (.tup xs)->Q (.ref p) H'
theorem cG{es:List Expr}{t:TA}{pos:Pos}(h:PA X es t):PE X (.List es pos) (uG t):=by
 symm;intro Q I hq;refine wpAny_List_spliced (cz (h pos ae s σ H _ I hq) fun us s1 ⟨xs,H1,I1,r,z,q⟩=>⟨by rw[<- r.length]; exact z,?_⟩)
 have fr:H1 s1.heap.objs.size=none:=I1.hok.fresh (bw _);exact⟨.ref s1.heap.objs.size,upd H1 s1.heap.objs.size (.lst xs),I1.laid (t':=s1.toks) (fun b u e=>fB _ e) (bw _) ⟨z,us,0,r,cO _ rfl⟩,rfl,q _ _ fr (aO fr _) aA⟩
theorem bA{es:List Expr}{t:TA}{x1}{pos:Pos}(h:PA X es t):PE X (.Tuple es x1 pos) (uy t):=by
 symm;intro Q I hq;refine wpAny_Tuple_spliced (cz (h pos ae s σ H _ I hq) fun us s1 ⟨xs,H1,I1,r,z,q⟩=>⟨by rw[<- r.length]; exact z,?_⟩)
 have fr:H1 s1.heap.objs.size=none:=I1.hok.fresh (bw _);exact⟨.ref s1.heap.objs.size,upd H1 s1.heap.objs.size (.tup xs),I1.laid (t':=s1.toks) (fun b u e=>fB _ e) (bw _) ⟨z,us,r,⟨_,cO _ rfl,rfl,_,rfl⟩⟩,rfl,q _ _ fr (aO fr _) aA⟩
def hid(a:Addr)(H:Hp):Hp:=fun b=>if b=a then none else H b
theorem dw{a b:Addr}{H:Hp}(h:b≠a):hid a H b=H b:=aX h
theorem oN{a:Addr}{H:Hp}:hid a H a=none:=bh rfl
theorem jk{a b:Addr}{H:Hp}{o:HO}(h:hid a H b=some o):b≠a/\H b=some o:=by
 by_cases e:b=a
 ·subst e; rw[oN] at h; cases h
 ·exact⟨e,by rw[dw e] at h; exact h⟩
theorem v9{a:Addr}{H:Hp}{o:HO}:hid a (upd H a o)=hid a H:=by
 funext b
 by_cases e:b=a
 ·subst e; rw[oN,oN]
 ·rw[dw e,dw e,aH e]
theorem jj{a p:Addr}{H:Hp}{o:HO}(h:p≠a):hid a (upd H p o)=upd (hid a H) p o:=by
 funext b
 by_cases e:b=a
 ·subst e; rw[oN,aH (Ne.symm h),oN]
 ·rw[dw e];by_cases e':b=p
  ·subst e'; rw[aA,aA]
  ·rw[aH e',aH e',dw e]
theorem rR{a:Addr}{H:Hp}:aK (hid a H) H:=fun b o h=>(jk h).2
def SX(a:Addr)(H H':Hp):Prop:=aK (hid a H) (hid a H')
theorem SX.refl(a:Addr)(H:Hp):SX a H H:=aK.refl _
theorem SX.trans{a:Addr}{H H1 H2:Hp}(x:SX a H H1)(y:SX a H1 H2):SX a H H2:=aK.trans x y
theorem SX.of{a:Addr}{H H':Hp}(s:aK H H'):SX a H H':=fun b o h=>by
 obtain⟨n,e⟩:=jk h;rw[dw n]; exact s _ _ e
theorem SX.upd{a:Addr}{H:Hp}{o:HO}:SX a H (upd H a o):=by unfold SX; rw[v9]; exact aK.refl _
theorem SX.get{a b:Addr}{H H':Hp}{o:HO}(s:SX a H H')(n:b≠a)(h:H b=some o):H' b=some o:=by
 have:=s b o (by rw[dw n]; exact h)
 exact(jk this).2
def Tp(H:Hp)(a:Addr)(n:Nat):Prop:=∃x y z:Int,H a=some (.lst [.int x,.int y,.int z])/\0<=x/\0<=y/\y<4611686018427387904/\0<=z/\z<=n
theorem Tp.mono{H:Hp}{a:Addr}{n m:Nat}(h:Tp H a n)(l:n<=m):Tp H a m:=by
 obtain⟨x,y,z,e,h1,h2,h3,h4,h5⟩:=h;exact⟨x,y,z,e,h1,h2,h3,h4,∅⟩
theorem Tp.same{H H':Hp}{a:Addr}{n:Nat}(h:Tp H a n)(s:aK H H'):Tp H' a n:=by
 obtain⟨x,y,z,e,r⟩:=h;exact⟨x,y,z,s _ _ e,r⟩
theorem Tp.ne{H:Hp}{a b:Addr}{n:Nat}(h:Tp H a n)(e:H b=none):b≠a:=by
 obtain⟨x,y,z,q,_⟩:=h;intro z; subst z; rw[e] at q; cases q
theorem Tp.neT{H:Hp}{a b:Addr}{n:Nat}{xs:List V}(h:Tp H a n)(e:H b=some (.tup xs)):b≠a:=by
 obtain⟨x,y,z,q,_⟩:=h;intro z; subst z; rw[e] at q; cases q
theorem aK.hid{a:Addr}{H H':Hp}(s:aK H H'):aK (_L.hid a H) (_L.hid a H'):=fun b o h=>by
 obtain⟨n,e⟩:=jk h;rw[dw n]; exact s _ _ e
theorem SX.fW{a p:Addr}{H H':Hp}{o:HO}(s:SX a H H')(hp:H p=none)(pa:p≠a):SX a H (_L.upd H' p o):=fun b u h=>by
 obtain⟨n,e⟩:=jk h;rw[jj pa,aH (cD e hp)];exact s b u h
theorem Tp.fW{H:Hp}{a p:Addr}{n:Nat}{o:HO}(t:Tp H a n)(pa:p≠a):Tp (_L.upd H p o) a n:=by
 obtain⟨x,y,z,e,r⟩:=t;exact⟨x,y,z,by rw[aH (Ne.symm pa)]; exact e,r⟩
def Vv(K:Frag)(H:Hp)(p:Addr)(xs:List V):Prop:=(∃o,H p=some (.ug o (.lst xs))) \/
 ∃(o:Obj)(its:Array AA)(n:Nat),K.lookup p=some o/\o.cls=.type "list" /\ o.dict=none/\o.data=.seq its n/\its.size<=sizeLine/\Vals xs its.toList
theorem Vv.sq{K:Frag}{H:Hp}{p:Addr}{xs:List V}(h:Vv K H p xs):bT K H p xs:=by
 rcases h with⟨o,h⟩ | h
 ·exact .inl (.inr ⟨o,h⟩)
 ·exact .inr h
theorem Vv.of{K:Frag}{H:Hp}{p:Addr}{xs:List V}(h:bT K H p xs)(o:Only H):Vv K H p xs:=by
 rcases h with(h | h) | h
 ·rcases o p with e | ⟨ob,ys,e⟩
  ·rw[e] at h; cases h
  ·rw[e] at h; cases h
 ·exact .inl h
 ·exact .inr h
theorem Vv.same{K:Frag}{H H':Hp}{p:Addr}{xs:List V}(h:Vv K H p xs)(s:aK H H'):Vv K H' p xs:=by
 rcases h with⟨o,h⟩ | h
 ·exact .inl ⟨o,s _ _ h⟩
 ·exact .inr h
end
mutual
def fine(b:Nat):PyData->Bool
 | .none=>true
 | .bool _=>true
 | .int i=>decide (i.natAbs<=b)
 | .str x=>decide (x.length<=40)&&x.cps.toList.all fun c=>decide (c<4294967296)
 | .tuple ds=>Dv b ds
 | .list ds=>Dv b ds
 | .dict _=>false
def Dv(b:Nat):List PyData->Bool
 | []=>true
 | d::ds=>fine b d&&Dv b ds
end
mutual
def aa0:PyData->Nat
 | .tuple ds=>vX ds+3
 | .list ds=>vX ds+3
 | .dict _=>500
 | .none=>500
 | .bool _=>500
 | .int _=>500
 | .str _=>500
def vX:List PyData->Nat
 | []=>0
 | d::ds=>aa0 d+2+vX ds
end
structure akD(b D M:Nat)(d:PyData):Prop where
 f:fine b d=true
 dp:d.depth<=D
 m:aa0 d<=M
structure acR(b D M:Nat)(ds:List PyData):Prop where
 f:∀d∈ds,fine b d=true
 dp:∀d∈ds,d.depth<=D
 m:vX ds<=M
section
variable{X:Cx}
end
theorem yD{xs:List V}{i:Int}(h:0<=i):vP xs none (some i)=xs.take i.toNat:=by
 obtain⟨j,rfl⟩:∃j:Nat,i=j:=⟨i.toNat,∅⟩
 unfold vP;rw[HT.Fp,HT.Km,List.drop_zero,Nat.sub_zero,xF];by_cases q:j<=xs.length
 ·rw[Nat.min_eq_left q]
 ·rw[Nat.min_eq_right ∅,rJ,Qp ∅]
theorem su{xs:List V}{i:Int}(h:0<=i):vP xs (some i) none=xs.drop i.toNat:=by
 obtain⟨j,rfl⟩:∃j:Nat,i=j:=⟨i.toNat,∅⟩
 unfold vP;rw[HT.Fp,HT.Km,xF];by_cases q:j<=xs.length
 ·rw[Nat.min_eq_left q,Qp (by rw[Cp]; omega)]
 ·rw[Nat.min_eq_right ∅,Fz,List.take_nil,List.drop_of_length_le ∅]
section
variable{X:Cx}
theorem Jg(hu:X.A.units+64<cLine):m7 X (compareOp .NotEq) (fun x y H Q=>∃d e,At H d x/\At H e y/\d.hasDict=false/\e.hasDict=false/\d.canLay0=true/\e.canLay0=true/\d.depth<=60/\Q (.bl (!PyData.eqv d e)) H):=by
 symm;intro x y v u Q I rx ry h;obtain⟨d,e,hd,he,n1,n2,c1,c2,dp,q⟩:=h;obtain⟨as,r1⟩:=nR I.hok _ _ _ hd rx n1;obtain⟨bs,r2⟩:=nR I.hok _ _ _ he ry n2;exact SeqAt.compareNe_reads r1 r2 c1 c2 (by have:=Ge d.depth e.depth; omega) (bJ I q rfl)
theorem XD(hu:X.A.units+64<cLine):m7 X (compareOp .Eq) (fun x y H Q=>∃d e,At H d x/\At H e y/\d.hasDict=false/\e.hasDict=false/\d.canLay0=true/\e.canLay0=true/\d.depth<=60/\Q (.bl (PyData.eqv d e)) H):=by
 symm;intro x y v u Q I rx ry h;obtain⟨d,e,hd,he,n1,n2,c1,c2,dp,q⟩:=h;obtain⟨as,r1⟩:=nR I.hok _ _ _ hd rx n1;obtain⟨bs,r2⟩:=nR I.hok _ _ _ he ry n2;exact SeqAt.compareEq_reads r1 r2 c1 c2 (by have:=Ge d.depth e.depth; omega) (bJ I q rfl)
end
def FK(g:TG)(tb:TS)(D:Ends)(σ:St)(vs:List V)(H1:Hp):Prop:=∃j:Int,vs=[.int j]/\-(2 ^ 62)<=j/\j<2 ^ 62/\∃W:Nat->Nat->St->Hp->Prop,(∃m,W 0 m σ H1)/\∀i m σ H,W i m σ H ->
 ((OJ 0 j.toNat).stop i H/\D.nx σ H)\/((OJ 0 j.toNat).go i H/\∃N:St->Hp->Prop,(∀σ' H',N σ' H'->∃m',m'<m/\W (i+1) m' σ' H')/\∀x H',(OJ 0 j.toNat).Er i H x H'->g x σ H' fun σ2 H2=>tb { D with nx:=N,ct:=N,bk:=D.nx } σ2 H2)
theorem m_{ta:TA}{g:TG}{tb:TS}{D:Ends}{σ:St}{H:Hp}:Ib (GR ta) g tb D σ H=ta σ H (FK g tb D σ):=rfl
theorem FK.of{g:TG}{tb:TS}{D:Ends}{σ:St}{H:Hp}{n:Nat}{i:Int}(ei:i=n)(hn:n<=1000000)(Pv:Nat->St->Hp->Prop)(h0:Pv 0 σ H)
  (hs:∀i σ H,i<n->Pv i σ H->g (.int (0+(i:Nat))) σ H fun σ2 H2=>tb { D with nx:=Pv (i+1),ct:=Pv (i+1),bk:=D.nx } σ2 H2) (hd:∀σ H,Pv n σ H->D.nx σ H):FK g tb D σ [.int i] H:=by
 subst ei;refine⟨n,rfl,∅,∅,?_⟩
 rw[xF];exact N5 Pv h0 hs hd
theorem FK.ofN{g:TG}{tb:TS}{D:Ends}{σ:St}{H:Hp}{n:Nat}{i:Int}(ei:i=n)(hn:n<=1000000)(Pv:Nat->St->Hp->Prop)(h0:Pv 0 σ H)
  (hs:∀i σ H,i<n->Pv i σ H->∀N:St->Hp->Prop,(∀σ' H',Pv (i+1) σ' H'->N σ' H')->g (.int (0+(i:Nat))) σ H fun σ2 H2=>tb { D with nx:=N,ct:=N,bk:=D.nx } σ2 H2) (hd:∀σ H,Pv n σ H->D.nx σ H):FK g tb D σ [.int i] H:=FK.of ei hn Pv h0 (fun i σ H hi p=>hs i σ H hi p _ fun _ _ h=>h) hd
def TK(K:Frag)(g:TG)(tb:TS)(D:Ends)(σ:St)(x:V)(H1:Hp):Prop:=∃a,x=.ref a/\(∃xs,fK K H1 a xs)/\∃W:Nat->Nat->St->Hp->Prop,(∃m,W 0 m σ H1)/\∀i m σ H,W i m σ H ->
 ((Wx K a).stop i H/\D.nx σ H)\/((Wx K a).go i H/\∃N:St->Hp->Prop,(∀σ' H',N σ' H'->∃m',m'<m/\W (i+1) m' σ' H')/\∀x H',(Wx K a).Er i H x H'->g x σ H' fun σ2 H2=>tb { D with nx:=N,ct:=N,bk:=D.nx } σ2 H2)
theorem Px{K:Frag}{tl:TE}{g:TG}{tb:TS}{D:Ends}{σ:St}{H:Hp}:Ib (GQ K tl) g tb D σ H=tl σ H (TK K g tb D σ):=rfl
theorem TK.of{K:Frag}{g:TG}{tb:TS}{D:Ends}{σ:St}{H:Hp}{a:Addr}{xs:List V}(ha:H a=some (.tup xs))(Pv:Nat->St->Hp->Prop)(h0:Pv 0 σ H)(hl:∀i σ H',i<=xs.length->Pv i σ H'->H' a=some (.tup xs))
  (hs:∀i x σ H,xs[i]?=some x->Pv i σ H->g x σ H fun σ2 H2=>tb { D with nx:=Pv (i+1),ct:=Pv (i+1),bk:=D.nx } σ2 H2) (hd:∀σ H,Pv xs.length σ H->D.nx σ H):TK K g tb D σ (.ref a) H:=
 ⟨a,rfl,⟨xs,fK.of ha⟩,Vd (xs:=xs) Pv h0 (fun i σ H' hi p=>fK.of (hl i σ H' hi p)) hs hd⟩
def CK(js:List Nat)(te:TE)(σ:St)(Q:VK)(vs:List V)(H1:Hp):Prop:=∃j:Int,vs=[.int j]/\-(2 ^ 62)<=j/\j<2 ^ 62/\∀acc,H1 acc=none->∃W:Nat->Nat->List V->Hp->Prop,(∃m,W 0 m [] (upd H1 acc (.lst [])))/\∀i m ys H2,W i m ys H2 ->
 ((OJ 0 j.toNat).stop i H2/\Q (.ref acc) H2)\/((OJ 0 j.toNat).go i H2/\∀x H3,(OJ 0 j.toNat).Er i H2 x H3->te (some x::bQ js σ) H3 fun y H4=>H4 acc=some (.lst ys)/\ys.length<sizeLine/\∃m',m'<m/\W (i+1) m' (ys++[y]) (upd H4 acc (.lst (ys++[y]))))
theorem tH{js:List Nat}{ta:TA}{te:TE}{σ:St}{H:Hp}{Q:VK}:iB js (GR ta) te σ H Q=ta σ H (CK js te σ Q):=rfl
theorem CK.of{js:List Nat}{te:TE}{σ:St}{H:Hp}{Q:VK}{n:Nat}{i:Int}(ei:i=n)(hn:n<=1000000)
  (h:∀acc,H acc=none->∃Pv:Nat->List V->Hp->Prop,Pv 0 [] (upd H acc (.lst [])) /\
   (∀i ys H',i<n->Pv i ys H'->te (some (.int (0+(i:Nat)))::bQ js σ) H' fun y dF=>dF acc=some (.lst ys)/\ys.length<sizeLine/\Pv (i+1) (ys++[y]) (upd dF acc (.lst (ys++[y])))) /\
   ∀ys H',Pv n ys H'->Q (.ref acc) H'):CK js te σ Q [.int i] H:=by
 subst ei;have:=Yv (ta:=fun _ H R=>R [.int n] H) (σ:=σ) (H:=H) (Q:=Q) (js:=js) (te:=te) (n:=n) (fun R hR=>hR) hn h;exact this
def Gs(mg:Str->Option AA)(x:Str)(i:Str):Prop:=∃t,mg x=some (.str i t)
theorem CP{X:Cx}{x:Str}{i:Str}{pos:Pos}(h:Gs X.mg x i)(hg: ~~~(Gl X x))(hd:((x==("__debug__" : Str))=false)⁻¹):PE X (.Name x pos) (tC (.str i)):=by
 obtain⟨t,ht⟩:=h;exact CV hg ht ⟨t,rfl⟩ hd
def pN(b:Int):List Int->Int
 | []=>b
 | x::r=>pN (if x>b then x else b) r
section
variable{prog:AC}{w:World}{A:Around}{R:Result->AB->Prop}{It:Addr}{fp wr:List Addr}{n:Nat}{Pv:Nat->AA->Prop}{St:Nat->Heap->Prop}
theorem QV{ns:List Int}(W:Walks prog w A.in1 It fp wr n Pv St)(hn:n=ns.length)(hv:∀i v,Pv i v->∃t,v=.int (ns.getD i 0) t)(C:Addr)(nf:C∉fp)(d:AA):∀(m j:Nat)(z:AB)(best:Int)(tb:Tok)(c:Nat),ns.length-j=m->j<=ns.length->St j z.heap ->
  z.heap.get? C=some ⟨.type "list",none,.seq #[.int best tb,.int best tb] c,#[]⟩ ->
  (∀t h' tk,(∀b o,b∉wr->b≠C->z.heap.get? b=some o->h'.get? b=some o)->R (.ok (.ret (.int (pN best (ns.drop j)) t))) { z with heap:=h',toks:=tk }) ->
  codeAny (model prog w) A (.builtin "max.loop" ⟨[.ref It,.none,.ref C],[("default",d)]⟩) R z:=by
 subst hn;have nw:C∉wr:=fun q=>nf (W.sub _ q);have nm:(toString "max" ++ toString ".loop" : String) = "max.loop" := by decide
 intro m
 induction m with
 | zero=>
  intro j z best tb c hm hj st hC fin;have e:j=ns.length:=by omega
  subst e;refine codeAny_builtin PySem.F.entry_max_loop ?_;rw[Around.under_plainId PySem.F.plain_max_loop _];show wpAny _ A.in1 (seqItems? (.ref C) >>= _) _ _ z;refine aN (mW hC rfl ?_);show wpAny _ A.in1 (tryCatch (pyNext (.ref It)) _ >>= _) _ _ z;refine aN (An (W.done z _ _ st fun h' tk kp=>?_));refine aN (wpAny_updateSeq (kp C _ nw hC) rfl (aN (yX (bV ?_))));rw[Fz] at fin;exact fin tb _ tk fun b o h1 h2 h3=>(zg _ _ (Ne.symm h2)).trans (kp b o h1 h3)
 | succ m ih=>
  intro j z best tb c hm hj st hC fin;have lt:j<ns.length:=by omega
  refine codeAny_builtin PySem.F.entry_max_loop ?_;rw[Around.under_plainId PySem.F.plain_max_loop _];show wpAny _ A.in1 (seqItems? (.ref C) >>= _) _ _ z;refine aN (mW hC rfl ?_);show wpAny _ A.in1 (tryCatch (pyNext (.ref It)) _ >>= _) _ _ z;refine aN (An (W.item j z _ _ lt st fun v h' tk hP st' kp=>?_));obtain⟨t,rfl⟩:=hv j v hP;have hC':=kp C _ nw hC;show wpAny _ A.in1 (tryCatch (holding [_,_] (richCompare .Gt _ (.int best tb) >>= _)) _ >>= _) _ _ _;refine aN (An (pJ (aN (richCompare_gives (op:=.Gt) (typeIs_int _ _ t) (typeIs_int _ _ tb) PySem.F.slot_int_gt PySem.F.entry_int_gt (PySem.F.args_int_gt_2 _ _) (gives_int_gt _ _ t tb) (fun x=>nomatch x) ?_))))
  refine aN (pJ (IW (aN (yX (bV ?_)))))
  have dr:ns.drop j=ns.getD j 0::ns.drop (j+1):=by
   rw[M5 lt,ig,cT lt]; rfl
  rw[dr] at fin;by_cases hb:ns.getD j 0>best
  ·have e1:pN best (ns.getD j 0::ns.drop (j+1))=pN (ns.getD j 0) (ns.drop (j+1)):=by rw[pN,bh hb]
   rw[e1] at fin;rw[rH hb];simp only[if_true];refine aN (wpAny_updateSeq hC' rfl (aN (yX ?_)));rw[nm];refine bV ⟨plainId_quiet PySem.F.plain_max_loop _,ih (j+1) _ _ t _ ∅ lt (W.frame _ _ _ st' fun b hb o e=>?_) (M4 _ hC' rfl) fun t2 h2 tk2 k2=>?_⟩
   ·exact(zg _ _ (fun q:C=b=>nf (by rw[q]; exact hb))).trans e
   ·exact fin t2 h2 tk2 fun b o h1 h3 e=>k2 b o h1 h3 ((zg _ _ (Ne.symm h3)).trans (kp b o h1 e))
  ·have e1:pN best (ns.getD j 0::ns.drop (j+1))=pN best (ns.drop (j+1)):=by rw[pN,aX hb]
   rw[e1] at fin;rw[mY hb];simp only[tY,if_false];refine aN (yX ?_);rw[nm];refine bV ⟨plainId_quiet PySem.F.plain_max_loop _,ih (j+1) _ best tb c ∅ lt st' hC' fun t2 h2 tk2 k2=>?_⟩
   exact fin t2 h2 tk2 fun b o h1 h3 e=>k2 b o h1 h3 (kp b o h1 e)
theorem Nu{ns:List Int}(W:Walks prog w A.in1 It fp wr n Pv St)(hn:n=ns.length)(hv:∀i v,Pv i v->∃t,v=.int (ns.getD i 0) t)(C:Addr)(nf:C∉fp)(d:AA)(z:AB)(c:Nat)(st:St 0 z.heap)
  (hC:z.heap.get? C=some ⟨.type "list",none,.seq #[] c,#[]⟩)
  (f0:ns=[]->∀h' tk,(∀b o,b∉wr->b≠C->z.heap.get? b=some o->h'.get? b=some o)->R (.ok (.ret d)) { z with heap:=h',toks:=tk })
  (f1:∀x r,ns=x::r->∀t h' tk,(∀b o,b∉wr->b≠C->z.heap.get? b=some o->h'.get? b=some o)->R (.ok (.ret (.int (pN x r) t))) { z with heap:=h',toks:=tk }) :
  codeAny (model prog w) A (.builtin "max.loop" ⟨[.ref It,.none,.ref C],[("default",d)]⟩) R z:=by
 have nw:C∉wr:=fun q=>nf (W.sub _ q);have nm:(toString "max" ++ toString ".loop" : String) = "max.loop" := by decide
 refine codeAny_builtin PySem.F.entry_max_loop ?_;rw[Around.under_plainId PySem.F.plain_max_loop _];show wpAny _ A.in1 (seqItems? (.ref C) >>= _) _ _ z;refine aN (mW hC rfl ?_);show wpAny _ A.in1 (tryCatch (pyNext (.ref It)) _ >>= _) _ _ z;cases ns with
 | nil=>
  subst hn;refine aN (An (W.done z _ _ st fun h' tk kp=>?_));show wpAny _ A.in1 (rule _ >>= _) _ _ _;exact aN (yW (bV (f0 rfl h' tk fun b o h1 _ e=>kp b o h1 e)))
 | cons x r=>
  refine aN (An (W.item 0 z _ _ (by rw[hn]; exact Nat.succ_pos _) st fun v h' tk hP st' kp=>?_))
  obtain⟨t,e⟩:=hv 0 v hP;have e:v=.int x t:=e;subst e;have hC':=kp C _ nw hC;show wpAny _ A.in1 (updateSeq C (fun _=>#[Value.int x t,Value.int x t]) >>= _) _ _ _;refine aN (wpAny_updateSeq hC' rfl ?_);rw[nm];refine bV ⟨plainId_quiet PySem.F.plain_max_loop _,QV W hn hv C nf d _ 1 _ x t _ rfl (by simp) (W.frame _ _ _ st' fun b hb o e=>?_) (M4 _ hC' rfl) fun t2 h2 tk2 k2=>?_⟩
  ·exact(zg _ _ (fun q:C=b=>nf (by rw[q]; exact hb))).trans e
  ·exact f1 x r rfl t2 h2 tk2 fun b o h1 h3 e=>k2 b o h1 h3 ((zg _ _ (Ne.symm h3)).trans (kp b o h1 e))
end
theorem Oj(a v:AA):argsOk "max" ⟨[a],[("default",v)]⟩:=by unfold argsOk; kernel_rfl
section
variable{prog:AC}{w:World}{A:Around}{E:AA->AB->Prop}{s:AB}
theorem Ob{l:Addr}{its:List AA}{ns:List Int}{d:AA}{Q:AA->AB->Prop}(hh:A.handled=none)(hl:s.heap.IsList l its.toArray)(hi:∀i v,its[i]?=some v->∃t,v=Value.int (ns.getD i 0) t)(hlen:its.length=ns.length)
  (h0:ns=[]->∀h' tk,(∀b o,s.heap.get? b=some o->h'.get? b=some o)->Q d { s with heap:=h',toks:=tk })
  (h1:∀b r,ns=b::r->∀t h' tk,(∀b o,s.heap.get? b=some o->h'.get? b=some o)->Q (Value.int (pN b r) t) { s with heap:=h',toks:=tk }) :
  wpAny (model prog w) A (call (.builtin "max") [.ref l] [("default",d)]) Q E s:=by
 have nm:(toString "max" ++ toString ".loop" : String) = "max.loop" := by decide
 have lt:l<s.heap.objs.size:=by obtain⟨_,e,_⟩:=hl; exact bH e
 refine kmk_tree PySem.F.kind_max PySem.F.plain_max PySem.F.entry_max (Oj _ _) ?_;show wpAny _ A.in1 (Builtin.Builtins.bindParams "max" ["key","default"] 0 ⟨[],[("default",d)]⟩ >>= _) _ _ s;refine aN (yZ (show Builtin.Builtins.bindParams "max" ["key","default"] 0 ⟨[],[("default",d)]⟩=pure [none,some d] from rfl) ?_);refine aN (bV ?_);refine aN (zf hl ?_);refine aN (xG ?_);rw[nm];have W:=Walks.list (prog:=prog) (w:=w) (A:=A.in1) hh s.heap.objs.size l (dJ lt) its.toArray;generalize eh:s.heap.push { cls:=.type "list_iterator",data:=.fields #[.ref l,.int 0 0] }=h1';have sz:h1'.objs.size=s.heap.objs.size+1:=by rw[<- eh,fQ]
 have k1:∀b o,s.heap.get? b=some o->h1'.get? b=some o:=fun b o e=>by rw[<- eh]; exact fB _ e
 have hit:h1'.IsListIter s.heap.objs.size l 0:=by rw[<- eh]; exact⟨_,cO _ rfl,rfl,rfl⟩
 have hl1:h1'.IsList l its.toArray:=by rw[<- eh]; exact hl.push _
 have nf:h1'.objs.size∉[s.heap.objs.size,l]:=fun q=>by
  rcases bB.mp q with e | q
  ·rw[sz] at e; exact Nat.succ_ne_self _ e
  ·have e:=fV.mp q; rw[sz] at e; rw[<- e] at lt; exact vf _ (FW (FJ _) lt)
 have ol:∀{h':Heap},(∀b o,b∉[s.heap.objs.size]->b≠h1'.objs.size->(h1'.push { cls:=.type "list",data:=.seq #[] 0 }).get? b=some o->h'.get? b=some o)->∀b o,s.heap.get? b=some o->h'.get? b=some o:=fun k b o e=>by
  have lb:=bH e;refine k b o (fun q=>?_) (fun q=>?_) (fB _ (k1 b o e))
  ·rw[fV.mp q] at lb; exact vf _ lb
  ·rw[q,sz] at lb; exact vf _ (FW (FJ _) lb)
 refine bV ⟨plainId_quiet PySem.F.plain_max_loop _,Nu (ns:=ns) W (by rw[fC,hlen]) (fun i v e=>hi i v (by simpa using e)) h1'.objs.size nf d _ _ ?_ (cO _ rfl) (fun e h' tk k=>h0 e h' tk (ol k)) (fun x r e t h' tk k=>h1 x r e t h' tk (ol k))⟩
 exact W.frame _ _ _ (show h1'.IsListIter s.heap.objs.size l 0/\h1'.IsList l its.toArray from⟨hit,hl1⟩) fun b _ o e=>fB _ e
end
section
variable{X:Cx}
def uF(t:TA)(te:TE):TE:=fun σ H Q=>t σ H fun vs H1=>te σ H1 fun y H2=>∃(p:Addr)(ns:List Int),vs=[.ref p]/\H2 p=some (.lst (ns.map V.int))/\(ns=[]->Q y H2)/\∀b r,ns=b::r->Q (.int (pN b r)) H2
theorem BX{ns:List Int}:∀{us:List AA},Vals (ns.map V.int) us->∀i v,us[i]?=some v->∃t,v=Value.int (ns.getD i 0) t:=by
 induction ns with
 | nil=>intro us r i v e; cases r; simp at e
 | cons n ns ih=>
  intro us r i v e;cases r with
  | cons r1 r2=>
   cases i with
   | zero=>
    obtain⟨t,rfl⟩:=(r1:∃t,_=Value.int n t);simp at e;exact⟨t,e.symm⟩
   | succ i=>simpa using ih r2 i v (by simpa using e)
theorem Uh{e e2:Expr}{t:TA}{te:TE}{p pos UL:Pos}(hc:X.calm=true)(hm:X.mg "max" = none)(ha:PA X [e] t)(hk:PE X e2 te)(hg: ~~~(Gl X "max"))(h1: ~~~(bO e=true)) :
  PE X (.Call (.Name "max" p) [e] [⟨some "default",e2,UL⟩] pos) (uF t te):=by
 symm;intro Q I h;refine vm (iw I hg hm oW ?_ ⋯ ⋯)
 refine callWith_kw ?_ ?_ ?_ ?_ ?_
 ·refine cz (ha pos ae s σ H _ I h) fun us s1 qx=>?_;obtain⟨vs,H1,I1,r,q⟩:=qx;refine cz ((T_ hk Xp:PK X [⟨some "default",e2,UL⟩] _) pos ae s1 σ H1 (fun ys H2=>∃y,ys=[y]/\(∃(p:Addr)(ns:List Int),vs=[.ref p]/\H2 p=some (.lst (ns.map V.int))/\(ns=[]->Q y H2)/\∀b r,ns=b::r->Q (.int (pN b r)) H2)) I1 ?_) fun ws s2 ⟨zs,H2,I2,rz,q2⟩=>?_
  ·show te σ H1 (fun x H2=>∃y,[x]=[y]/\_)
   have fe:(fun(x:V)(H2:Hp)=>∃y,[x]=[y]/\(∃(p:Addr)(ns:List Int),vs=[.ref p]/\H2 p=some (.lst (ns.map V.int))/\(ns=[]->Q y H2)/\∀b r,ns=b::r->Q (.int (pN b r)) H2))=fun y H2=>∃(p:Addr)(ns:List Int),vs=[.ref p]/\H2 p=some (.lst (ns.map V.int))/\(ns=[]->Q y H2)/\∀b r,ns=b::r->Q (.int (pN b r)) H2:=by
    funext x H2
    refine propext ⟨?_,fun z=>⟨x,rfl,z⟩⟩;rintro⟨y,ey,z⟩;cases ey;exact z
   rw[fe];exact q
  ·obtain⟨y,rfl,l,ns,rfl,hl,q0,q1⟩:=q2;obtain⟨u,rfl,ru⟩:=r.one;cases ru;obtain⟨v,rfl,rv⟩:=rz.one;obtain⟨_,its,n,rvs,eo⟩:=I2.hok l _ hl;have hlen:=rvs.length;rw[bN] at hlen;refine Ob (ns:=ns) (I2.ok.hd hc) (show s2.heap.IsList l its.toArray from⟨_,eo,rfl,n,rfl⟩) (BX rvs) hlen.symm (fun e h' tk k=>⟨y,H2,I2.kept (t':=tk) k,rv,q0 e⟩) (fun b r e t h' tk k=>⟨.int (pN b r),H2,I2.kept (t':=tk) k,⟨t,rfl⟩,q1 b r e⟩)
 ·rw[bW h1]; rfl
 ·exact b8 (es:=[e]) (by simp[h1])
 ·rfl
 ·rfl
end
def jN(t:Str):Nat:=if(("come" : Str)==t)=true then 0 else if(("done" : Str)==t)=true then 1 else 2
def VB:List V:=[.str "come",.str "done",.str "wait"]
def aao(K:Frag):V->List V->Hp->VK->Prop:=fun x xs H Q=>∃(p:Addr)(t:Str),x=.ref p/\fK K H p VB/\xs=[.str t]/\t∈(["come","done","wait"]:List Str)/\Q (.int (jN t)) H
theorem wA{x y z:V}{us:List AA}(h:Vals [x,y,z] us):∃u v q,us=[u,v,q]/\RelV x u/\RelV y v/\RelV z q:=by
 obtain⟨u,r,rfl,h1,h⟩:=h.un;obtain⟨v,q,rfl,h2,h3⟩:=h.two;exact⟨u,v,q,rfl,h1,h2,h3⟩
theorem U0{t:Str}(h:t∈(["come","done","wait"]:List Str))(h0:(("come" : Str)==t)=false)(h1:(("done" : Str)==t)=false):(("wait" : Str)==t)=true:=by
 simp only[bB,dM,or_false] at h;rcases h with rfl | rfl | rfl
 ·revert h0; decide +kernel
 ·revert h1; decide +kernel
 ·decide +kernel
section
variable{X:Cx}
theorem Et{prog:AC}{w:World}{A:Around}{E:AA->AB->Prop}{s:AB}{p:Addr}{a b c t:Str}{k0 k1 k2 k3:Tok}{Q:AA->AB->Prop}(ht:IsTup s.heap p #[.str a k0,.str b k1,.str c k2])(hl:(a==t)=false->(b==t)=false->(c==t)=true)
  (q:∀tk,Q (Value.int (if(a==t)=true then 0 else if(b==t)=true then 1 else 2) tk) { s with toks:=s.toks+1 }):wpAny (model prog w) A (call (.builtin "tuple.index") [.ref p,.str t k3]) Q E s:=by
 refine zb PySem.F.slot_tuple_index ht.typeIs PySem.F.entry_tuple_index ?_ (PySem.F.args_tuple_index_2 _ _);show wpAny _ A.in1 (Builtin.Tuple.tupleItemsOf (.ref p) >>= _) _ _ s;refine aN (tupleItemsOf_ ht ?_);show wpAny _ _ ((pure 0:Sem Nat) >>= _) _ _ s;refine aN (bV ?_);show wpAny _ _ ((pure 3:Sem Nat) >>= _) _ _ s;refine aN (bV ?_);show wpAny _ _ (forIn [0:3] _ _ >>= _) _ _ s;rw[Std.Legacy.Range.forIn_eq_forIn_range'];have e:List.range' [0:3].start [0:3].size [0:3].step=[0,1,2]:=rfl;rw[e,za]
 have mk:∀(i:Int){R:PySem.Fin->AB->Prop},(∀tk,R (.done (.ret (.int i tk))) { s with toks:=s.toks+1 })->wpAny (model prog w) A.in1 (retInt i) R E s:=fun i {R} h=>by
  unfold retInt;refine aN (wpAny_mkInt (bV (h _)))
 have eq:∀(z:Str)(k:Tok),SeqAt.EqAt A.in1 s (.str z k) (.str t k3) (z==t):=fun z k=>SeqAt.EqAt.str_str z k t k3;cases e0:(a==t) with
 | true=>
  rw[e0] at q;refine aN (aN (aN (eq a k0 _ _ _ _ ?_)));rw[e0,bh rfl];refine aN (mk 0 fun tk=>bV (bV (bV ⟨_,rfl,q tk⟩)))
 | false=>
  rw[e0] at q;refine aN (aN (aN (eq a k0 _ _ _ _ ?_)));rw[e0,aX ⋯]
  refine bV ?_;show wpAny _ _ (forIn [1,2] _ _) _ _ s;rw[za];cases e1:(b==t) with
  | true=>
   rw[e1] at q;refine aN (aN (eq b k1 _ _ _ _ ?_));rw[e1,bh rfl];refine aN (mk 1 fun tk=>bV (bV (bV ⟨_,rfl,q tk⟩)))
  | false=>
   rw[e1] at q;refine aN (aN (eq b k1 _ _ _ _ ?_));rw[e1,aX ⋯]
   refine bV ?_;show wpAny _ _ (forIn [2] _ _) _ _ s;rw[za];refine aN (aN (eq c k2 _ _ _ _ ?_));rw[hl e0 e1,bh rfl];refine aN (mk 2 fun tk=>bV (bV (bV ⟨_,rfl,q tk⟩)))
theorem Nv{K:Frag}(hK:X.K=K):MtR X "tuple.index" (aao K):=by
 subst hK;intro ae s σ H x xs v us Q I rx rv h;obtain⟨p,t,rfl,hp,rfl,ht,q⟩:=h;cases rx;obtain⟨u,rfl,tk,rfl⟩:=rv.one;obtain⟨its,r,pt,_⟩:=I.tuple hp;obtain⟨u0,u1,u2,rfl,⟨k0,rfl⟩,⟨k1,rfl⟩,⟨k2,rfl⟩⟩:=wA r;refine Et pt (U0 ht) fun tk'=>⟨.int (jN t),H,I.tok _,⟨tk',?_⟩,q⟩;unfold jN;split
 ·rfl
 ·split <;> rfl
def GT2(K:Frag)(mg:Str->Option AA)(x:Str)(W:List V):Prop:=∃a,mg x=some (.ref a)/\(∃o,K.lookup a=some o/\o.cls=.type "tuple" /\ o.dict=none)/\∀H,fK K H a W
def E_(K:Frag)(W:List V):TE:=fun _ H Q=>∀a,(∃o,K.lookup a=some o/\o.cls=.type "tuple" /\ o.dict=none)->(∀H',fK K H' a W)->Q (.ref a) H
theorem Ud{K:Frag}{x:Str}{W:List V}{pos:Pos}(hK:X.K=K)(h:GT2 K X.mg x W)(hg: ~~~(Gl X x))(hd:((x==("__debug__" : Str))=false)⁻¹):PE X (.Name x pos) (E_ K W):=by
 obtain⟨a,ha,ho,hs⟩:=h;symm;intro Q I q;exact CV (v:=.ref a) hg ha rfl hd ae s σ H Q I (q a ho hs)
end
section
variable{X:Cx}{pos:Pos}
def uD(i j l:Nat)(ta:TA):TS:=fun D σ H=>ta σ H fun vs H1=>∃v w z,vs=[v,w,z]/\D.nx (((σ.set l (some z)).set j (some w)).set i (some v)) H1
theorem T7{i j l:Nat}{x y z:Str}{a b c:Expr}{ta:TA}{px py pz pt:Pos}{kt k2 Xl}(hc:X.calm=true)(hN:X.N.Nodup)(hi:X.N[i]?=some x)(hj:X.N[j]?=some y)(hl:X.N[l]?=some z)
  (hx:X.env.scope.names.lookup x=some .local) (hy:X.env.scope.names.lookup y=some .local) (hz:X.env.scope.names.lookup z=some .local) (ha:PA X [a,b,c] ta)
  (hw:swappedStores [.Tuple [.Name x px,.Name y py,.Name z pz] kt pt] (.Tuple [a,b,c] k2 Xl) X.env=pure (some [x,y,z]))
  (hs: ~~~(swapsWithSole [.Tuple [.Name x px,.Name y py,.Name z pz] kt pt] (.Tuple [a,b,c] k2 Xl) pos.line X.env=pure false)) :
  PS X (.Assign [.Tuple [.Name x px,.Name y py,.Name z pz] kt pt] (.Tuple [a,b,c] k2 Xl) pos) (uD i j l ta):=by
 symm;intro D I h;rw[exec_Assign_arm,hs];refine aN (Cm (aN (bV ?_)));rw[aX ⋯]
 refine aN (Tuple_ (cz (ha _ ae s σ H _ I h) fun us s1 qx=>?_));obtain⟨vs,H1,I1,r1,v,w,t,e1,q1⟩:=qx;subst e1;refine kJ (wA r1) fun u1 u2 u3 iQ rv yU rt=>?_; subst iQ;refine xG ?_ (by show 3<=sizeLine; decide)
 have I2:Inv X ae σ H1 { s1 with heap:=s1.heap.push { cls:=.type "tuple",data:=.seq [u1,u2,u3].toArray } }:=I1.kept (t':=s1.toks) fun b o e=>fB _ e
 rw[hw];refine aN (bV ?_);show wpAny (model X.prog X.w) X.A (do rule "assign.swapped-stores"; let items <- unpackItems (.ref s1.heap.objs.size) 3 none; assignInOrder [fun v=>bindName X.env z v,fun v=>bindName X.env y v,fun v=>bindName X.env x v] items.reverse; pure Flow.next) _ _ _
 refine aN (yW (aN (unpackItems_tuple (items:=#[u1,u2,u3]) (I.ok.hd hc) (IsTup.new s1.heap _) fun h' hx'=>?_)));have I3:=I2.kept (h':=h') (t':=s1.toks) fun b o e=>hx' b o (dJ (bH e)) e;show wpAny _ _ (assignInOrder [fun v=>bindName X.env z v,fun v=>bindName X.env y v,fun v=>bindName X.env x v] [u3,u2,u1] >>= fun _=>pure Flow.next) _ _ _;refine aN (assignInOrder_cons (F_ (g8 I3 hN hl (.inl hz) rt (fun s2 I4=>?_) (.inr hz))));refine assignInOrder_cons (F_ (g8 I4 hN hj (.inl hy) yU (fun s3 I5=>?_) (.inr hy)));exact assignInOrder_cons (F_ (g8 I5 hN hi (.inl hx) rv (fun s4 I6=>assignInOrder_nil (bV ⟨_,H1,I6,q1⟩)) (.inr hx)))
end
theorem Inv.Tg{X:Cx}{ae:List (Addr×Obj)}{σ:St}{H:Hp}{s:AB}{h':Heap}{t':Nat}{e it:Addr}(I:Inv X ae σ H s)(k:∀b o,b≠e->b≠it->s.heap.get? b=some o->h'.get? b=some o)(fe:fD X ae H e)(fi:fD X ae H it) :
  Inv X ae σ H { s with heap:=h',toks:=t' }:=by
 have k2:∀b o,b∉[e,it]->s.heap.get? b=some o->h'.get? b=some o:=fun b o hb q=>k b o (fun z=>hb (by simp[z])) (fun z=>hb (by simp[z])) q
 have fp:∀b∈[e,it],fD X ae H b:=fun b hb=>by
  rcases bB.mp hb with z | z
  ·rw[z]; exact fe
  ·rw[fV.mp z]; exact fi
 have ni:∀b u,H b=some u->b∉[e,it]:=fun b u q hb=>by rw[(fp b hb).1] at q; cases q
 refine I.step (g':=s.gens) (d':=s.drawn) (ch:=[e,it]) (fun b hb=>?_) (fun b o _ _ hc q _=>k2 b o hc q) (fun b o _ _ hc q _=>⟨o.slots,k2 b o hc q⟩) (fun _ _ _ _ n=>n) (fun b o hc q=>⟨o,k2 b o hc q⟩) (fun _ _ q=>q) (fun _ _ _ q=>q)
  (fun b ps q=>⟨#[],by rw[q]; simp⟩) (fun m hm=>?_) (fun b u q=>?_) I.bare
 ·obtain⟨_,f1,_,f3,f4,f5⟩:=fp b hb;exact⟨f3,f1,f4,f5⟩
 ·obtain⟨o,es,ep,ho,r⟩:=hm;refine⟨o,es,ep,k2 _ o (fun hb=>(fp _ hb).2.1 rfl) ho,r⟩
 ·refine(I.hok b u q).stay (fun c v hc z=>k2 c v ?_ z) (fun _ z=>z) fun _ _ z=>z;rcases hc with z | z
  ·rw[z]; exact ni b u q
  ·exact ni c _ z
def Zz(K:Frag)(a:Addr):It:=
 ⟨fun i H=>∃xs x,bT K H a xs/\xs[i]?=some x,fun i H x H'=>∃p y,H p=none/\x=.ref p/\H'=upd H p (.tup [.int i,y])/\∀xs,bT K H a xs->xs[i]?=some y,fun i H=>∃xs,bT K H a xs/\xs.length<=i⟩
theorem Mv{P:AC}{w:World}{K:Frag}{elts:List Expr}{x1}{tp:Pos}(a e it:Addr)(hne:e≠it):Turn P w K (.Tuple elts x1 tp) (Zz K a) [e,it] e (fun i h=>(∃old,IsEnum h e it (i:Nat) old)/\h.IsListIter it a i) where
 mem:=by simp
 obj:=fun i h st b hb=>by
  obtain⟨⟨old,he⟩,o,ho,c,d⟩:=st;rcases bB.mp hb with z | z
  ·rw[z]; exact⟨_,he,fun v q=>by cases q⟩
  ·rw[fV.mp z]; exact⟨o,ho,fun v q=>by rw[d] at q; cases q⟩
 keep:=fun i h h' st k=>by
  obtain⟨⟨old,he⟩,hi⟩:=st;exact⟨⟨old,k e (by simp) _ he⟩,hi.at fun o q=>k it (by simp) o q⟩
 item:=by
  intro X hP hw hK hc i ae s σ H E I hf st hg;subst hP hw hK;obtain⟨⟨old,he⟩,hi⟩:=st;obtain⟨xs,x,hq,hx⟩:=hg;obtain⟨its,rv,p,hz⟩:=I.list hq;obtain⟨u,hu,ru⟩:=rv.get hx;have fe:=hf e (by simp)
  have fi:=hf it (by simp)
  refine wpAny_pyNext_enum_item he hi p.isList (x:=u) (by simpa using hu) hne fun h' eo hi' ht hsz kk=>?_
  have fr:H s.heap.objs.size=none:=I.hok.fresh (bw _)
  have I1:Inv X ae σ (upd H s.heap.objs.size (.tup [.int i,x])) { s with heap:=s.heap.push { cls:=.type "tuple",data:=.seq #[.int i s.toks,u] },toks:=s.toks }:=
   I.laid (t':=s.toks) (fun b v q=>fB _ q) (bw _) ⟨(by show 2<=sizeLine; decide),[.int i s.toks,u],.cons ⟨_,rfl⟩ (.cons ru .nil),⟨_,cO _ rfl,rfl,_,rfl⟩⟩
  have ee:e<s.heap.objs.size:=bH he;have ei:it<s.heap.objs.size:=by obtain⟨o,ho,_⟩:=hi; exact bH ho
  have Ym:fD X ae (upd H s.heap.objs.size (.tup [.int i,x])) e:=⟨by rw[aH (dJ ee)]; exact fe.1,fe.2⟩
  have fi1:fD X ae (upd H s.heap.objs.size (.tup [.int i,x])) it:=⟨by rw[aH (dJ ei)]; exact fi.1,fi.2⟩
  have I2:Inv X ae σ (upd H s.heap.objs.size (.tup [.int i,x])) { s with heap:=h',toks:=s.toks+1 }:=I1.Tg (t':=s.toks+1) (fun b o h1 h2 q=>by
   by_cases z:b=s.heap.objs.size
   ·subst z;rw[cO _ rfl] at q;cases q;exact ht
   ·rcases Heap.get?_push_cases q with w | w
    ·exact absurd w.1 z
    ·exact kk b o h1 h2 w) Ym fi1
  refine⟨_,rfl,wpAny_letOwnedTupleGo_enum eo fun h'' en sb=>⟨.ref s.heap.objs.size,_,I2.turned (it:=e) (t':=s.toks+1) (fun b o hb q=>sb.extBut b o hb q) Ym.1 Ym.2.1 Ym.2.2.2.1 Ym.2.2.2.2.1 Ym.2.2.2.2.2,rfl,⟨_,x,fr,rfl,rfl,fun ys hy=>by rw[I.ym hy hq]; exact hx⟩,⟨⟨_,en⟩,?_⟩,fun b hb=>?_⟩⟩
  ·exact hi'.at fun o q=>sb.extBut it o (Ne.symm hne) q
  ·rcases bB.mp hb with z | z
   ·rw[z]; exact Ym.1
   ·rw[fV.mp z]; exact fi1.1
 done:=by
  intro X hP hw hK hc i ae s σ H E I hf st hg;subst hP hw hK;obtain⟨⟨old,he⟩,hi⟩:=st;obtain⟨xs,hq,hx⟩:=hg;obtain⟨its,rv,p,hz⟩:=I.list hq;have hl:=rv.length;obtain⟨f0,f1,f2,f3,f4,f5⟩:=hf it (by simp)
  exact wpAny_pyNext_enum_end (I.ok.hd hc) he hi p.isList (by simp; omega) fun h' eb=>⟨rfl,I.turned (t':=s.toks) (fun b o hb q=>eb b o hb q) f0 f1 f3 f4 f5⟩
 self:=fun _ _ _ _ _ st h=>by
  obtain⟨⟨old,he⟩,_⟩:=st;exact wpAny_pyIter_enum he h
section
variable{X:Cx}
def We(K:Frag)(ta:TA):TI:=fun σ H R=>ta σ H fun vs H1=>∃a,vs=[.ref a]/\(∃xs,bT K H1 a xs)/\R (Zz K a) H1
theorem CN{K:Frag}{e:Expr}{elts:List Expr}{x1}{tp p pos:Pos}{ta:TA}(hK:X.K=K)(hm:X.mg "enumerate" = none)(ha:PA X [e] ta)(hg: ~~~(Gl X "enumerate"))(h1: ~~~(bO e=true)) :
  PI X (.Tuple elts x1 tp) (.Call (.Name "enumerate" p) [e] [] pos) (We K ta):=by
 subst hK;symm;intro R I h;refine vm (iw I hg hm DY ?_ ⋯ ⋯)
 refine PyProof.Rows.callWith_type1 (cz (ha pos ae s σ H _ I h) fun us s1 ⟨vs,H1,I1,r1,q1⟩=>?_) (bW h1) (b8 (es:=[]) rfl);obtain⟨a,rfl,⟨xs,hq⟩,q⟩:=q1;obtain⟨u,rfl,ru⟩:=r1.one;cases ru;obtain⟨its,rv,pl,hz⟩:=I1.list hq;refine call_enumerate_list pl.isList fun h' he hi hsz kk=>?_;have I2:Inv X ae σ H1 { s1 with heap:=h' }:=I1.kept (t':=s1.toks) kk
 have f1:H1 (s1.heap.objs.size+1)=none:=I1.hok.fresh (Al _);have f0:H1 s1.heap.objs.size=none:=I1.hok.fresh (bw _);refine wpAny_pyIter_enum he ⟨s1.heap.objs.size+1,_,_,Zz X.K a,H1,rfl,I2,Mv a (s1.heap.objs.size+1) s1.heap.objs.size (Nat.succ_ne_self _),⟨⟨_,he⟩,hi⟩,fun b hb=>?_,q⟩;rcases bB.mp hb with z | z
 ·rw[z]; exact I1.uh (Al _) f1
 ·rw[fV.mp z]; exact I1.uh (bw _) f0
def EK(K:Frag)(g:TG)(tb:TS)(D:Ends)(σ:St)(vs:List V)(H1:Hp):Prop:=∃a,vs=[.ref a]/\(∃xs,bT K H1 a xs)/\∃W:Nat->Nat->St->Hp->Prop,(∃m,W 0 m σ H1)/\∀i m σ H,W i m σ H ->
 ((Zz K a).stop i H/\D.nx σ H)\/((Zz K a).go i H/\∃N:St->Hp->Prop,(∀σ' H',N σ' H'->∃m',m'<m/\W (i+1) m' σ' H')/\∀x H',(Zz K a).Er i H x H'->g x σ H' fun σ2 H2=>tb { D with nx:=N,ct:=N,bk:=D.nx } σ2 H2)
theorem tu{K:Frag}{ta:TA}{g:TG}{tb:TS}{D:Ends}{σ:St}{H:Hp}:Ib (We K ta) g tb D σ H=ta σ H (EK K g tb D σ):=rfl
theorem EK.of{K:Frag}{g:TG}{tb:TS}{D:Ends}{σ:St}{H:Hp}{a:Addr}{xs:List V}(ha:H a=some (.lst xs))(Pv:Nat->St->Hp->Prop)(h0:Pv 0 σ H)(hl:∀i σ H',i<=xs.length->Pv i σ H'->H' a=some (.lst xs))
  (hs:∀i x σ H p,xs[i]?=some x->Pv i σ H->H p=none->g (.ref p) σ (upd H p (.tup [.int (i:Nat),x])) fun σ2 H2=>tb { D with nx:=Pv (i+1),ct:=Pv (i+1),bk:=D.nx } σ2 H2) (hd:∀σ H,Pv xs.length σ H->D.nx σ H):EK K g tb D σ [.ref a] H:=by
 refine⟨a,rfl,⟨xs,bT.of ha⟩,fun i m σ H=>m=xs.length-i/\i<=xs.length/\Pv i σ H,⟨_,rfl,gC _,h0⟩,?_⟩;rintro i m σ H ⟨rfl,hi,p⟩;have q:bT K H a xs:=bT.of (hl i σ H hi p);by_cases hlt:i<xs.length
 ·refine .inr ⟨⟨xs,xs[i],q,cT hlt⟩,Pv (i+1),fun σ' H' p'=>⟨xs.length-(i+1),∅,rfl,hlt,p'⟩,fun x H' y=>?_⟩
  obtain⟨t,z,ht,rfl,rfl,hz⟩:=y;exact hs i z σ H t (hz xs q) p ht
 ·have e:i=xs.length:=by omega
  subst e;exact .inl ⟨⟨xs,q,bw _⟩,hd σ H p⟩
end
section
variable{X:Cx}
theorem lA:dG X (.type "list") (fun vs H Q=>∃(p:Addr)(ys:List V),vs=[.ref p]/\H p=some (.lst ys)/\∀l,H l=none->Q (.ref l) (upd H l (.lst ys))):=by
 symm;intro vs us Q I r h;obtain⟨p,ys,e,hp,q⟩:=h;exact sE ae s σ H vs us Q I r ⟨p,ys,e,.inl (bT.of hp),q⟩
theorem lW{K:Frag}{o e:Expr}{es:List Expr}{to:TE}{t:TA}{name:Str}{apos cpos:Pos}{T id:String}{r:V->List V->Hp->VK->Prop}(hK:X.K=K)(pa:PlainAttrs T)(slot:Slot T name id)(hty:typeOf (.builtin id)=pure (.type "method_descriptor"))(hm:MtR X id r)(ho:PE X o to)(ha:PA X (e::es) t)
  (hbase: ~~~(attributeBase o name X.env (eval o X.env)=eval o X.env))
  (hfew: ~~~(((backTo cpos (starEach (e::es) X.env)).all (fun x=>!x.1)&&(backToKw cpos (keywordEach [] X.env)).all (fun x=>x.1.isSome)&&decide ((e::es).length+([]:List Keyword).length+(if([]:List Keyword).isEmpty then 0 else 1)<30))=true))
  (hline: ~~~((apos.endLine==cpos.line)=true)) (hs: ~~~(starEach (e::es) X.env=(false,eval e X.env)::starEach es X.env)) (hplain: ~~~((backTo cpos (starEach es X.env)).any (·.1)=false)):PE X (.Call (.Attribute o name apos) (e::es) [] cpos) (Tt K T r to t):=by
 subst hK;exact QK pa slot hty hm ho ha hbase hfew hline hs hplain
end
theorem Ig:isSubtype (.type "range_iterator") (.type "reversed")=pure false:=by rw[isSubtype_type]; kernel_rfl
section
variable{prog:AC}{w:World}{A:Around}{E:AA->AB->Prop}{s:AB}
def xq(n:Int):Obj:={ cls:=.type "range_iterator",data:=.fields #[rawInt (n-1),rawInt n,rawInt (-1)] }
theorem yH{r:Addr}{n:Int}{t u v:Tok}{Q:AA->AB->Prop}(hr:IsRange s.heap r 0 n 1 t u v)(h0:0<=n)(h1:n<2 ^ 62)(h:Q (.ref s.heap.objs.size) { s with heap:=s.heap.push (xq n) }) :
  wpAny (model prog w) A (call (.builtin "range.__reversed__") [.ref r]) Q E s:=by
 have hT:s.TypeIs (.ref r) "range" := ⟨_,hr,rfl⟩;refine zb PySem.F.slot_range_reversed hT PySem.F.entry_range_reversed ?_ (PySem.F.args_range_reversed_1 _);unfold Builtin.«range.__reversed__»;refine aN (yZ (a:=Value.ref r) rfl ?_)
 have rf:∀{R:Int×Int×Int->AB->Prop},R (0,n,1) s->wpAny (model prog w) A.in1 (Builtin.Range.rangeFields (.ref r)) R E s:=fun {R} hR=>by
  unfold Builtin.Range.rangeFields;refine aN (fP hr rfl (x:=.int 0 t) rfl (aN (yZ (a:=some (0:Int)) rfl ?_)));refine aN (fP hr rfl (x:=.int n u) rfl (aN (yZ (a:=some n) rfl ?_)));exact aN (fP hr rfl (x:=.int 1 v) rfl (aN (yZ (a:=some (1:Int)) rfl (bV hR))))
 refine aN (rf ?_);dsimp only;have sz:Builtin.Range.rangeSize 0 n 1=n:=by rw[rangeSize_one]; split <;> omega
 rw[sz]
 have sm:(Builtin.Range.rangeFitsLong 0&&Builtin.Range.rangeFitsLong n&&Builtin.Range.rangeFitsLong 1&&Builtin.Range.rangeFitsLong (-1)&&Builtin.Range.rangeFitsLong (0-1)&&Builtin.Range.rangeFitsLong n)=true:=by
  have:Builtin.Range.rangeFitsLong n=true:=by simp only[Builtin.Range.rangeFitsLong,Fx,decide_eq_true_eq]; omega
  rw[this]; decide
 rw[sm];simp only[Fv,tY,if_false,if_true];have e1:(0+(n-1)*1:Int)=n-1:=by omega
 rw[e1];exact aN (xG (bV ⟨_,rfl,h⟩))
theorem yF{r:Addr}{n:Int}{t u v:Tok}{Q:AA->AB->Prop}(hr:IsRange s.heap r 0 n 1 t u v)(h0:0<=n)(h1:n<2 ^ 62)(h:Q (.ref s.heap.objs.size) { s with heap:=s.heap.push (xq n) }) :
  codeAny (model prog w) A (.call (.builtin "reversed.__new__") ⟨[.type "reversed",.ref r],[]⟩) (wants Q E) s:=by
 have hT:s.TypeIs (.ref r) "range" := ⟨_,hr,rfl⟩;refine codeAny_of_tree ?_;show wpAny _ A.in1 (do checkBuiltinCall "reversed.__new__" ⟨[.type "reversed",.ref r],[]⟩; again (.builtin "reversed.__new__" ⟨[.type "reversed",.ref r],[]⟩)) _ _ s
 refine aN (yZ (F.newCall_reversed_1 (.ref r)) (bV ⟨plainId_quiet F.plain_reversed_new _,codeAny_builtin F.entry_reversed_new ?_⟩));rw[Around.under_plainId F.plain_reversed_new _];unfold Builtin.«reversed.__new__»;refine aN (yZ (newClass_reversed (.ref r)) ?_); (try dsimp only)
 refine aN (yZ (a:=()) rfl (aN (yZ (a:=()) rfl ?_)));refine aN (wpAny_specialOf hT PySem.F.slot_range_reversed.lookup ?_); (try dsimp only)
 refine aN (yZ (PySem.F.slot_range_reversed.bind _) ?_); (try dsimp only)
 rw[aX (show ¬((Value.builtin "range.__reversed__" == Value.none)=true) from ju)];refine aN (yW (aN (m:=runValue (.call (.builtin "range.__reversed__") ⟨[.ref r],[]⟩)) (show wpAny _ _ (call (.builtin "range.__reversed__") [.ref r]) _ _ _ from yH hr h0 h1 ?_)))
 first
  | exact bV h
  | exact aN (bV (bV h))
theorem yG{r:Addr}{n:Int}{t u v:Tok}{Q:AA->AB->Prop}(hr:IsRange s.heap r 0 n 1 t u v)(h0:0<=n)(h1:n<2 ^ 62)(h:Q (.ref s.heap.objs.size) { s with heap:=s.heap.push (xq n) }) :
  wpAny (model prog w) A (call (.type "reversed") [.ref r]) Q E s:=by
 refine callType_other (U:="range_iterator") (Q₁:=fun obj z=>obj=.ref s.heap.objs.size/\z={ s with heap:=s.heap.push (xq n) }) (by decide +kernel) F.create_reversed ⟨_,_,F.mro_reversed⟩ F.made_reversed Ig (F.typeCall_reversed_1 _) (yF hr h0 h1 ⟨rfl,rfl⟩) ?_
 rintro obj z ⟨rfl,rfl⟩;exact⟨⟨_,cO _ rfl,rfl⟩,h⟩
end
def Zy(n:Nat):It:=⟨fun i _=>i<n,fun i H x H'=>H'=H/\x=.int ((n:Int)-1-i),fun i _=>n<=i⟩
theorem Pq{P:AC}{w:World}{K:Frag}{tg:Expr}(it:Addr)(n:Nat):Turn P w K tg (Zy n) [it] it (fun i h=>IsRangeIter h it ((n:Int)-1+(i:Nat)*(-1)) ((n:Int)-(i:Nat)) (-1)) where
 mem:=by simp
 obj:=fun i h st b hb=>by
  rw[fV.mp hb]
  exact⟨_,st,fun v z=>by
   have z':Data.fields _=Data.cell v:=z
   cases z'⟩
 keep:=fun i h h' st k=>k it (by simp) _ st
 item:=by
  intro X hP hw hK hc i ae s σ H E I hf st hg;subst hP hw hK;refine nZ (hf it (by simp)) fun f0 f1 f2 f3 f4 f5=>?_
  have W:=Walks.range (prog:=X.prog) (w:=X.w) (I.ok.hd hc) it ((n:Int)-1) (-1) n;refine W.item i s _ _ hg st fun v h' tk hv st' kk=>?_;obtain⟨t,rfl⟩:=hv;have I1:Inv X ae σ H { s with heap:=h',toks:=tk }:=I.turned (fun b o hb e=>kk b o (by simpa using hb) e) f0 f1 f3 f4 f5
  refine⟨_,rfl,Bf (s:={ s with heap:=h',toks:=tk }) (n:="range_iterator") st' rfl rfl ⋯ ⟨.int ((n:Int)-1-i),H,I1,⟨t,?_⟩,⟨rfl,rfl⟩,st',fun b hb=>(hf b hb).1⟩⟩
  congr 1
  omega
 done:=by
  intro X hP hw hK hc i ae s σ H E I hf st hg;subst hP hw hK;obtain⟨f0,f1,f2,f3,f4,f5⟩:=hf it (by simp)
  exact wpAny_pyNext_range_end (I.ok.hd hc) st (by have:n<=i:=hg; omega) fun h' eb=>⟨rfl,I.turned (t':=s.toks) (fun b o hb e=>eb b o hb e) f0 f1 f3 f4 f5⟩
 self:=fun _ _ _ _ _ st h=>Qs st h
section
variable{X:Cx}
theorem Hl:bootBuiltins "reversed" = some (.type "reversed"):=by decide +kernel
def aa7(ta:TA):TI:=fun σ H R=>ta σ H fun vs H1=>∃n:Nat,vs=[.int n]/\n<=1000000/\R (Zy n) H1
theorem Xu{tg a:Expr}{p p2 pos pos2:Pos}{ta:TA}(hm:X.mg "reversed" = none)(hm2:X.mg "range" = none)(ha:PA X [a] ta)(hg: ~~~(Gl X "reversed"))(hg2: ~~~(Gl X "range"))(h1: ~~~(bO a=true)) :
  PI X tg (.Call (.Name "reversed" p) [.Call (.Name "range" p2) [a] [] pos2] [] pos) (aa7 ta):=by
 symm;intro R I h;refine vm (iw I hg hm Hl ?_ ⋯ ⋯)
 refine PyProof.Rows.callWith_type1 ?_ (bW rfl) (b8 (es:=[]) rfl);rw[bW (e:=.Call (.Name "range" p2) [a] [] pos2) rfl];show wpAny _ _ (spliced ((false,eval (.Call (.Name "range" p2) [a] [] pos2) X.env)::backTo pos (starEach [] X.env))) _ _ s;refine Calls.spliced_cons ?_;refine vm (iw I hg2 hm2 RV ?_ ⋯ ⋯)
 refine PyProof.Rows.callWith_type1 (cz (ha pos2 ae s σ H _ I h) fun us s1 ⟨vs,H1,I1,r1,n,e,hn,q⟩=>?_) (bW h1) (b8 (es:=[]) rfl);subst e;obtain⟨u,rfl,t,rfl⟩:=r1.one;refine call_range_1 ?_;refine Calls.spliced_nil ?_;refine yG (IsRange.new ..) ∅ ∅ ?_
 have k2:∀b o,s1.heap.get? b=some o->((s1.heap.push { cls:=.type "range",data:=.fields #[.int 0 s1.toks,.int (n:Int) t,.int 1 (s1.toks+1)] }).push (xq n)).get? b=some o:=fun b o e=>fB _ (fB _ e);have I2:=I1.kept (t':=s1.toks+1+1) k2;generalize hh:s1.heap.push { cls:=.type "range",data:=.fields #[.int 0 s1.toks,.int (n:Int) t,.int 1 (s1.toks+1)] }=h1' at I2 ⊢;have sz:s1.heap.objs.size<=h1'.objs.size:=by rw[<- hh,fQ]; exact Al _
 have st:IsRangeIter (h1'.push (xq n)) h1'.objs.size ((n:Int)-1+((0:Nat):Int)*(-1)) ((n:Int)-((0:Nat):Int)) (-1):=by
  have e1:(n:Int)-1+((0:Nat):Int)*(-1)=(n:Int)-1:=by simp
  have e2:(n:Int)-((0:Nat):Int)=n:=by simp
  rw[e1,e2];exact cO _ rfl
 refine Qs (s:={ s1 with heap:=h1'.push (xq n),toks:=s1.toks+1+1 }) (by exact st) ⟨h1'.objs.size,[h1'.objs.size],_,Zy n,H1,rfl,I2,Pq _ n,st,fun b hb=>?_,q⟩
 rw[fV.mp hb];exact I1.uh sz (I1.hok.fresh sz)
def VK'(g:TG)(tb:TS)(D:Ends)(σ:St)(vs:List V)(H1:Hp):Prop:=∃n:Nat,vs=[.int n]/\n<=1000000/\∃W:Nat->Nat->St->Hp->Prop,(∃m,W 0 m σ H1)/\∀i m σ H,W i m σ H ->
 ((Zy n).stop i H/\D.nx σ H)\/((Zy n).go i H/\∃N:St->Hp->Prop,(∀σ' H',N σ' H'->∃m',m'<m/\W (i+1) m' σ' H')/\∀x H',(Zy n).Er i H x H'->g x σ H' fun σ2 H2=>tb { D with nx:=N,ct:=N,bk:=D.nx } σ2 H2)
theorem Py{ta:TA}{g:TG}{tb:TS}{D:Ends}{σ:St}{H:Hp}:Ib (aa7 ta) g tb D σ H=ta σ H (VK' g tb D σ):=rfl
theorem VK'.of{g:TG}{tb:TS}{D:Ends}{σ:St}{H:Hp}{n:Nat}{i:Int}(ei:i=n)(hn:n<=1000000)(Pv:Nat->St->Hp->Prop)(h0:Pv 0 σ H)
  (hs:∀i σ H,i<n->Pv i σ H->g (.int ((n:Int)-1-(i:Nat))) σ H fun σ2 H2=>tb { D with nx:=Pv (i+1),ct:=Pv (i+1),bk:=D.nx } σ2 H2) (hd:∀σ H,Pv n σ H->D.nx σ H):VK' g tb D σ [.int i] H:=by
 subst ei;refine⟨n,rfl,hn,fun i m σ H=>m=n-i/\i<=n/\Pv i σ H,⟨n,rfl,gC _,h0⟩,?_⟩;rintro i m σ H ⟨rfl,hi,p⟩;by_cases hlt:i<n
 ·refine .inr ⟨hlt,Pv (i+1),fun σ' H' p'=>⟨n-(i+1),∅,rfl,hlt,p'⟩,fun x H' y=>?_⟩
  obtain⟨e1,e2⟩:=y;subst e1 e2;exact hs i σ _ hlt p
 ·have e:i=n:=by omega
  subst e;exact .inl ⟨bw _,hd σ H p⟩
end
structure J2(K:Frag)(x qual:Str)(st:Stmt)(f:Addr)(fd:FuncData)(T:Addr)(i:Int)(t:Tok):Prop where
 ex:∃(oc:AA)(od:Option Addr)(kV doc pm:AA)(an:Option Addr)(cdv ct:AA)(osl:Array (Option AA)),
  fd=fnOf x qual (b7 st) (bK st) (aD st) (.ref T) kV doc pm an cdv ct/\K.lookup f=some ⟨oc,od,.func fd,osl⟩/\codeIn K cdv qual=true
 kp:keepIn K (.ref f)=true
 df:∃o n,K.lookup T=some o/\o.data=.seq #[.int i t] n
section
variable{P:AC}{w:World}{K:Frag}{mg:Str->Option AA}{base:Heap}
theorem J2.ok{x qual:Str}{st:Stmt}{f T:Addr}{i:Int}{t:Tok}{fd:FuncData}{N ps:List Str}{k:Nat}{sp:Sp}(F:J2 K x qual st f fd T i t)(S:aV N ps (aD st))(len: autoParam (∀vs H Q E,sp vs H Q E->vs.length=ps.length) z_g._auto_1)
  (hbody:∀(cdv:AA)(A:Around)(outer:List Env)(s:AB)(H:Hp)(vs:List V)(Q:VK)(E:XK),eG k (A.deeper (envOfC qual (aD st) s.heap.objs.size f cdv))->sp vs H Q E ->
   ∃t,Ej (k_ iy P w K mg base N qual (aD st) f cdv A outer s H E).Zj (bK st) t/\t { nx:=fun _ H'=>Q .non H',rt:=Q } (start N vs) H):bF P w K mg base iy (k+1) f fd ps sp:=by
 obtain⟨oc,od,kV,doc,pm,an,cdv,ct,osl,rfl,lk,hcd⟩:=F.ex;exact Wh lk hcd S len fun A outer s H vs Q E hr hsp=>let ⟨t,h,q⟩:=hbody cdv A outer s H vs Q E hr hsp; ⟨t,h.Zj,q⟩
theorem J2.binds{x qual:Str}{st:Stmt}{f T:Addr}{i:Int}{t:Tok}{fd:FuncData}{ps:List Str}{ds:List AA}(F:J2 K x qual st f fd T i t)
  (h:∀(kV doc pm:AA)(an:Option Addr)(cdv ct:AA)(us:List AA),(us++ds).length=ps.length->∃k,bindArgs (fnOf x qual (b7 st) (bK st) (aD st) (.ref T) kV doc pm an cdv ct) ⟨us,[]⟩=seqItems? (.ref T) >>= k/\k (some #[.int i t])=pure (ps.zip (us++ds))):Binds K fd ps ds:=by
 obtain⟨oc,od,kV,doc,pm,an,cdv,ct,osl,rfl,lk,hcd⟩:=F.ex;obtain⟨o,n,ho,hd⟩:=F.df;intro s us KX hl;obtain⟨k,h1,h2⟩:=h kV doc pm an cdv ct us hl;exact BindsTo.of_defaults rfl (KX _ _ ho) hd h1 h2
end
structure SN(P:AC)(w:World)(K:Frag)(mg:Str->Option AA)(base:Heap)(k:Nat)(x:Str)(ps:List Str)(i:Int)(sp:Sp) where
 f:Addr
 fd:FuncData
 t:Tok
 G:bF P w K mg base iy k f fd ps sp
 kp:keepIn K (.ref f)=true
 b:Binds K fd ps []
 bd:Binds K fd ps [.int i t]
 m:mg x=some (.ref f)
def SN.mono{P:AC}{w:World}{K:Frag}{mg:Str->Option AA}{base:Heap}{j k:Nat}{x:Str}{ps:List Str}{i:Int}{sp:Sp}(c:SN P w K mg base j x ps i sp)(h:j<=k):SN P w K mg base k x ps i sp:={ c with G:=c.G.mono h }
section
variable{X:Cx}{x:Str}{p pos:Pos}{e:Expr}{es:List Expr}{t:TA}
theorem pfa{k:Nat}{ps:List Str}{i:Int}{sp:Sp}(c:SN X.prog X.w X.K X.mg X.base k x ps i sp)(hr:eG k X.A)(ha:PA X (e::es) t)(hg: ~~~(Gl X x))(hdb:((x==("__debug__" : Str))=false)⁻¹)(h1: ~~~(bO e=true))(h2: ~~~(es.all bO=true)) :
  PE X (.Call (.Name x p) (e::es) [] pos) (iU sp [] E0 t):=KJ c.G hr hg c.m c.kp c.b .nil Ay ha hdb (bW h1) (b8 h2)
end
section
variable{X:Cx}
end
def LK(K:Frag)(g:TG)(tb:TS)(D:Ends)(σ:St)(x:V)(H1:Hp):Prop:=∃a,x=.ref a/\(∃xs,bT K H1 a xs)/\∃W:Nat->Nat->St->Hp->Prop,(∃m,W 0 m σ H1)/\∀i m σ H,W i m σ H ->
 ((Wy K a).stop i H/\D.nx σ H)\/((Wy K a).go i H/\∃N:St->Hp->Prop,(∀σ' H',N σ' H'->∃m',m'<m/\W (i+1) m' σ' H')/\∀x H',(Wy K a).Er i H x H'->g x σ H' fun σ2 H2=>tb { D with nx:=N,ct:=N,bk:=D.nx } σ2 H2)
theorem Fb{K:Frag}{tl:TE}{g:TG}{tb:TS}{D:Ends}{σ:St}{H:Hp}:Ib (p_ K tl) g tb D σ H=tl σ H (LK K g tb D σ):=rfl
theorem LK.of{K:Frag}{g:TG}{tb:TS}{D:Ends}{σ:St}{H:Hp}{a:Addr}{xs:List V}(ha:H a=some (.lst xs))(Pv:Nat->St->Hp->Prop)(h0:Pv 0 σ H)(hl:∀i σ H',i<=xs.length->Pv i σ H'->H' a=some (.lst xs))
  (hs:∀i x σ H,xs[i]?=some x->Pv i σ H->g x σ H fun σ2 H2=>tb { D with nx:=Pv (i+1),ct:=Pv (i+1),bk:=D.nx } σ2 H2) (hd:∀σ H,Pv xs.length σ H->D.nx σ H):LK K g tb D σ (.ref a) H:=
 ⟨a,rfl,⟨xs,bT.of ha⟩,Rp (xs:=xs) Pv h0 (fun i σ H' hi p=>bT.of (hl i σ H' hi p)) hs hd⟩
end _L
namespace _L
open PySem
mutual
def uR:PyData->Bool
 | .tuple ds=>bD ds
 | .list _=>false
 | .dict _=>false
 | .none=>true
 | .bool _=>true
 | .int _=>true
 | .str _=>true
def bD:List PyData->Bool
 | []=>true
 | d::ds=>uR d&&bD ds
end
theorem bj:∀{ds:List PyData},bD ds=true↔∀d∈ds,uR d=true
 | []=>by simp[bD]
 | d::ds=>by
  have ih:=bj (ds:=ds);simp only[bD,Fx,ih,bB,forall_eq_or_imp]
mutual
theorem At.Jy{G:Hp}{p:Addr}{xs:List V}(hp:G p=some (.lst xs)):∀(d:PyData)(v:V),uR d=true->At G d v->At (hid p G) d v
 | .none,_,_,h=>by unfold At at h ⊢; exact h
 | .bool _,_,_,h=>by unfold At at h ⊢; exact h
 | .int _,_,_,h=>by unfold At at h ⊢; exact h
 | .str _,_,_,h=>by unfold At at h ⊢; exact h
 | .tuple ds,v,n,h=>by
  unfold At at h ⊢;obtain⟨a,ys,e,h1,h2⟩:=h;refine⟨a,ys,e,?_,aa.Jy hp ds ys (by simpa[uR] using n) h2⟩
  rw[dw (fun z=>by subst z; rw[hp] at h1; cases h1)]; exact h1
 | .list _,_,n,_=>by simp[uR] at n
 | .dict _,_,n,_=>by simp[uR] at n
theorem aa.Jy{G:Hp}{p:Addr}{xs:List V}(hp:G p=some (.lst xs)):∀(ds:List PyData)(ys:List V),bD ds=true->aa G ds ys->aa (hid p G) ds ys
 | [],_,_,h=>by unfold aa at h ⊢; exact h
 | d::ds,ys,n,h=>by
  unfold aa at h ⊢;obtain⟨x,r,e,h1,h2⟩:=h;have n':uR d=true/\bD ds=true:=by simpa[bD] using n
  exact⟨x,r,e,At.Jy hp d x n'.1 h1,aa.Jy hp ds r n'.2 h2⟩
end
theorem tM:∀l:List Int,(∀c∈l,0<=c)->0<=l.sum
 | [],_=>by simp
 | x::l,h=>by rw[y_]; have:=tM l fun c hc=>h c (cI _ hc); have:=h x dg; omega
theorem Aw{ts:List Str}{i:Int}(h0:0<=i)(h1:i<ts.length):∃t,t∈ts/\yN (ts.map V.str) i=some (.str t):=by
 have hi:i.toNat<ts.length:=by omega
 refine⟨ts[i.toNat],mZ hi,?_⟩;have:=a_ (xs:=ts.map V.str) (j:=i.toNat) (v:=.str ts[i.toNat]) (by rw[cA,cT hi]; rfl)
 rwa [show((i.toNat:Nat):Int)=i by omega] at this
theorem Ax{ts:List Int}{i:Int}(h0:0<=i)(h1:i<ts.length):∃t,t∈ts/\yN (ts.map V.int) i=some (.int t):=by
 have hi:i.toNat<ts.length:=by omega
 refine⟨ts[i.toNat],mZ hi,?_⟩;have:=a_ (xs:=ts.map V.int) (j:=i.toNat) (v:=.int ts[i.toNat]) (by rw[cA,cT hi]; rfl)
 rwa [show((i.toNat:Nat):Int)=i by omega] at this
def uz(a b:TS):TS:=lF a b
theorem Kg(i:Nat){e:TE}{b:TS}:lF (qu e (dh i)) b=uz (qu e (dh i)) b:=rfl
theorem Qi{c:TT}{x y b:TS}:lF (yQ c x y) b=uz (yQ c x y) b:=rfl
theorem uz.of{a b:TS}{D:Ends}{σ:St}{H:Hp}(R:St->Hp->Prop)(hR:∀σ' H',R σ' H'->b D σ' H')(h:∀N:St->Hp->Prop,(∀σ' H',R σ' H'->N σ' H')->a { D with nx:=N } σ H):uz a b D σ H:=h _ hR
theorem UG{α:Type}{l:List α}(h:l.length=3):∃a b c,l=[a,b,c]:=by
 match l,h with
 | [a,b,c],_=>exact⟨a,b,c,rfl⟩
theorem X3{α:Type}{l:List α}(h:l.length=5):∃a b c d e,l=[a,b,c,d,e]:=by
 match l,h with
 | [a,b,c,d,e],_=>exact⟨a,b,c,d,e,rfl⟩
theorem aK.fW{H H':Hp}{p:Addr}{o:HO}(s:aK H H')(hp:H p=none):aK H (upd H' p o):=fun b u h=>by rw[aH (cD h hp)]; exact s _ _ h
def Wa:PyData->Bool
 | .list _=>true
 | _=>false
theorem UW(K:Frag)(d:PyData):kitOne K (.type (tyD d)) (.type "list")=some (Wa d):=by cases d <;> kernel_rfl
theorem U5{X:Cx}:dG X (.builtin "isinstance") (Xh "list" Wa):=Q6 UW
theorem Jo{ds:List PyData}(h:bD ds=true){i:Nat}{d:PyData}(e:ds[i]?=some d):uR d=true:=bj.mp h d (dC e)
end _L
namespace _L
open PySem PySem.Spec PyProof.Rows
section
variable{X:Cx}
end
structure sW(X:Cx)(nt:Nat)(N':List Str)(js:List Nat)(sc:Scope):Prop where
 kind:sc.kind=.function
 lX:∀y∈sc.names,y.2≠.cell
 names:∀y∈sc.names,y.2=.local->sc.names.lookup y.1=some .local
 clos:closureFor sc X.env=pure (qO sc X.env)
 all:(sc.names.all fun y=>y.2 != .free || (X.env.cells.lookup y.1).isSome)=true
 len:N'.length=nt+js.length
 cap:∀(i j:Nat),js[i]?=some j->N'[nt+i]?=X.N[j]?
 RL:∀y∈N'.drop nt,X.env.kindOf y=some .cell/\sc.names.lookup y=some .free
theorem sy:∀(names:List (Str×NameKind))(h:Heap)(acc:List (Str×Addr))(x:Str)(c:Addr),(cellsFrom h.objs.size names acc).lookup x=some c->((pushCells h names).IsCell c none/\h.objs.size<=c)\/(acc.lookup x=some c/\(x,NameKind.cell)∉names)
 | [],h,acc,x,c,e=>.inr ⟨e,by simp⟩
 | (name,kind)::r,h,acc,x,c,e=>by
  unfold cellsFrom at e;unfold pushCells;split at e
  ·rename_i hk;have hk':kind=.cell:=by simpa using hk
   rw[bh hk];have:=sy r (h.push { cls:=.type "cell",data:=.cell none }) ((name,h.objs.size)::acc) x c (by rw[fQ]; exact e)
   rw[fQ] at this;rcases this with⟨z,z'⟩ | ⟨z,z'⟩
   ·exact .inl ⟨z,∅⟩
   ·rw[lR] at z;cases hx:x==name with
    | true=>
     rw[hx] at z;cases z;refine .inl ⟨?_,bw _⟩;exact⟨_,pushCells_keeps r _ _ _ (cO _ rfl),rfl⟩
    | false=>
     rw[hx] at z;refine .inr ⟨z,fun m=>?_⟩;rcases bB.mp m with q | q
     ·have:x=name:=(Prod.mk.inj q).1;simp[this] at hx
     ·exact z' q
  ·rename_i hk;rw[aX hk];rcases sy r h acc x c e with z | ⟨z,z'⟩
   ·exact .inl z
   ·refine .inr ⟨z,fun m=>?_⟩;rcases bB.mp m with q | q
    ·exact hk (by rw[<- (Prod.mk.inj q).2]; rfl)
    ·exact z' q
theorem JL:∀(names:List (Str×NameKind))(n:Nat)(acc:List (Str×Addr)),(∀x y c,acc.lookup x=some c->acc.lookup y=some c->x=y)->(∀x c,acc.lookup x=some c->c<n) ->
  (∀x y c,(cellsFrom n names acc).lookup x=some c->(cellsFrom n names acc).lookup y=some c->x=y)/\True
 | [],n,acc,h,_=>⟨h,trivial⟩
 | (name,kind)::r,n,acc,h,hb=>by
  unfold cellsFrom;split
  ·refine JL r (n+1) ((name,n)::acc) (fun x y c e1 e2=>?_) (fun x c e=>?_)
   ·rw[lR] at e1 e2;cases hx:x==name with
    | true=>
     rw[hx] at e1;cases e1;cases hy:y==name with
     | true=>rw[beq_iff_eq.mp hx,beq_iff_eq.mp hy]
     | false=>rw[hy] at e2; exact absurd (hb _ _ e2) (vf _)
    | false=>
     rw[hx] at e1;cases hy:y==name with
     | true=>rw[hy] at e2; cases e2; exact absurd (hb _ _ e1) (vf _)
     | false=>rw[hy] at e2; exact h x y c e1 e2
   ·rw[lR] at e;cases hx:x==name with
    | true=>rw[hx] at e; cases e; exact FJ _
    | false=>rw[hx] at e; exact FP (hb _ _ e)
  ·exact JL r n acc h hb
theorem JM{x:Str}:∀(names:List (Str×NameKind))(n:Nat)(acc:List (Str×Addr)),((x,NameKind.cell)∈names\/(acc.lookup x).isSome=true)->((cellsFrom n names acc).lookup x).isSome=true
 | [],n,acc,h=>by
  rcases h with h | h
  ·simp at h
  ·exact h
 | (name,kind)::r,n,acc,h=>by
  unfold cellsFrom;split
  ·rename_i hk;refine JM r (n+1) _ ?_;rcases h with h | h
   ·rcases bB.mp h with q | q
    ·refine .inr ?_;rw[lR,(Prod.mk.inj q).1];simp
    ·exact .inl q
   ·refine .inr ?_;rw[lR];split
    ·rfl
    ·exact h
  ·rename_i hk;refine JM r n acc ?_;rcases h with h | h
   ·rcases bB.mp h with q | q
    ·exact absurd (by rw[<- (Prod.mk.inj q).2]; rfl) hk
    ·exact .inl q
   ·exact .inr h
theorem DG{x:Str}{c:Addr}:∀(names:List (Str×NameKind))(n:Nat)(acc:List (Str×Addr)),(x,NameKind.cell)∉names->acc.lookup x=some c->(cellsFrom n names acc).lookup x=some c
 | [],n,acc,_,e=>e
 | (name,kind)::r,n,acc,h,e=>by
  unfold cellsFrom;split
  ·rename_i hk;refine DG r (n+1) _ (fun m=>h (cI _ m)) ?_;rw[lR];cases hx:x==name with
   | true=>
    have hk':kind=.cell:=by simpa using hk
    exact absurd (by rw[beq_iff_eq.mp hx,hk']; exact dg) h
   | false=>exact e
  ·exact DG r n acc (fun m=>h (cI _ m)) e
theorem iC{env:Env}:∀{names:List (Str×NameKind)}{x:Str},names.lookup x=some .cell ->
  (names.map fun(n,k)=>if(k==NameKind.free&&env.scope.kind==.function&&env.kindOf n==some .cell) then(n,NameKind.cell) else(n,k)).lookup x=some .cell
 | [],_,h=>by simp at h
 | (n,k)::r,x,h=>by
  have ih:=@iC env r x;show List.lookup x ((if(k==NameKind.free&&env.scope.kind==.function&&env.kindOf n==some .cell)=true then(n,NameKind.cell) else(n,k))::_)=_
  cases hx:x==n with
  | true=>
   simp only[lR,hx] at h;cases h;simp[lR,hx]
  | false=>
   simp only[lR,hx] at h;by_cases hc:(k==NameKind.free&&env.scope.kind==.function&&env.kindOf n==some .cell)=true
   ·rw[bh hc]; simp only[lR,hx]; exact ih h
   ·rw[aX hc]; simp only[lR,hx]; exact ih h
theorem pU{M:Model}{A:Around}{E:AA->AB->Prop}{s:AB}{scope:Scope}{globals:Addr}{cl:List (Str×Addr)}{qual:Str}{env:Env}{Q:Env->AB->Prop}
  (hQ:Q { scope,locals:=s.heap.objs.size,globals,cells:=cellsFrom (s.heap.objs.size+1) scope.names cl,qual,func:=none,code:=env.code,frame:=env.frame,builtins:=env.builtins } { s with heap:=pushCells (s.heap.push { cls:=.type "dict",data:=.dict #[] }) scope.names }) :
  wpAny M A (newFunctionEnv scope globals cl [] qual none .none (some env)) Q E s:=by
 simp only[newFunctionEnv,Option.isSome_some,if_true];refine aN (wpAny_alloc ?_);refine aN (wpAny_layCells _ (fun name kind cells=>by cases hkc:kind==NameKind.cell <;> simp[hkc]) _ _ _ _ ?_)
 rw[show({ s with heap:=s.heap.push { cls:=.type "dict",data:=.dict #[] } }:AB).heap.objs.size=s.heap.objs.size+1 from fQ ..]
 simp only[xN];exact aN (bV (bV hQ))
def pC(X:Cx)(N':List Str)(sc:Scope)(fp:List Addr)(s:AB)(H:Hp):Cx where
 prog:=X.prog
 w:=X.w
 K:=X.K
 mg:=X.mg
 base:=X.base
 A:=X.A
 N:=N'
 s₀:=s
 H₀:=H
 env:=compEnvC sc (cellsFrom (s.heap.objs.size+1) sc.names (qO sc X.env)) s.heap.objs.size X.env
 outer:=X.stack
 stack:=X.stack
 ex:=fp
 fn:=fun y=>sc.names.lookup y==some .cell
 calm:=X.calm
 pn:=[]
 xe:=fun _ _=>False
structure qU(X:Cx)(nt:Nat)(N':List Str)(js:List Nat)(sc:Scope):Prop where
 kind:sc.kind=.function
 cells:∀y∈sc.names,y.2=.cell->sc.names.lookup y.1=some .cell
 names:∀y∈sc.names,y.2=.local->sc.names.lookup y.1=some .local
 clos:closureFor sc X.env=pure (qO sc X.env)
 all:(sc.names.all fun y=>y.2 != .free || (X.env.cells.lookup y.1).isSome)=true
 len:N'.length=nt+js.length
 cap:∀(i j:Nat),js[i]?=some j->N'[nt+i]?=X.N[j]?
 RL:∀y∈N'.drop nt,X.env.kindOf y=some .cell/\sc.names.lookup y=some .free
theorem Bc{X:Cx}{ae:List (Addr×Obj)}{σ:St}{H:Hp}{s:AB}{fp:List Addr}{N':List Str}{js:List Nat}{sc:Scope}{nt:Nat}{h1:Heap}{tk:Nat}(I:Inv X ae σ H s)(hf:∀b∈fp,fD X ae H b)(hlt:∀b∈fp,b<s.heap.objs.size)
  (S:qU X nt N' js sc) (DK:∀{x:Str}{c:Addr},(cellsFrom (s.heap.objs.size+1) sc.names (qO sc X.env)).lookup x=some c->(h1.IsCell c none/\s.heap.objs.size<c)\/((qO sc X.env).lookup x=some c/\(x,NameKind.cell)∉sc.names)) (hn:h1.Ns s.heap.objs.size fun _=>none) (hk:∀b o,s.heap.get? b=some o->h1.get? b=some o):Inv (pC X N' sc fp s H) [] (List.replicate nt none++bQ js σ) H { s with heap:=h1,toks:=tk }:=by
 have old:∀x c,(qO sc X.env).lookup x=some c->c<s.heap.objs.size+1:=fun x c e=>by
  obtain⟨v,o,ho,_⟩:=I.cell x c (gP e);exact FP (bH ho)
 refine⟨⟨I.ok.mod,S.kind,I.ok.glob,I.ok.blt,bw _,fun x y c e1 e2=>(JL sc.names _ _ (fun x y c e1 e2=>I.ok.inj x y c (gP e1) (gP e2)) old).1 x y c e1 e2,fun x hx=>?_,fun x c hf' e=>(by
   rcases DK e with z | ⟨_,z⟩
   ·exact nY z.2
   ·exact absurd (PySem.mem_of_lookup (show sc.names.lookup x=some .cell from by simpa using(show(sc.names.lookup x==some NameKind.cell)=true from hf'))) z),I.ok.hd,I.ok.frames,.inl rfl,fun b hb=>⟨dJ (hlt b hb),fun x c e=>(by
   rcases DK e with z | ⟨z,_⟩
   ·exact xu (FW (hlt b hb) z.2)
   ·exact(hf b hb).2.2.2.2.1 x c (gP z))⟩,I.bs,
  iH I.ok.R0 I.sz,fun b o e hb=>?_,fun b hb z=>?_,I.stack,I.BZ⟩,rfl,I.bare,Un.kept hk,⟨fun _=>none,hn,fun i x v e1 e2 e3=>?_⟩,fun x c e=>?_,I.hok.fresh (bw _),fun x c e=>(by
   rcases DK e with z | ⟨z,_⟩
   ·exact I.hok.fresh (nY z.2)
   ·exact I.kZ x c (gP z)),fun p hp=>absurd (show p∈([]:List (Addr×Obj)) from hp) (by simp),I.hok.kept hk,?_⟩
 ·refine Qq.mp (JM sc.names _ _ ?_);have hx':(relabel sc X.env).names.lookup x=some .cell\/(relabel sc X.env).names.lookup x=some .free:=hx
  have key:(x,NameKind.cell)∈sc.names\/(x,NameKind.free)∈sc.names:=by
   rcases hx' with q | q
   ·obtain⟨k,hm,e | ⟨e,_⟩⟩:=uN q
    ·rw[<- e] at hm; exact .inl hm
    ·refine .inr ?_; rw[<- e]; exact hm
   ·refine .inr ?_;obtain⟨k,hm,e | ⟨e,_⟩⟩:=uN q
    ·rw[e]; exact hm
    ·rw[<- e]; exact hm
  rcases key with key | key
  ·exact .inl key
  have a:=pK.mp S.all _ key;have a':(X.env.cells.lookup x).isSome=true:=by simpa using a
  obtain⟨c,hc⟩:=Qq.mp a';exact .inr (Qq.mpr ⟨c,JK hc sc.names [] key⟩)
 ·rcases(hf b hb).2.2.2.1 with z | z
  ·exact I.ok.Nr b o e z
  ·exact absurd (pL (bH e) (iH I.ok.R0 z)) (vf _)
 ·rcases bB.mp (I.Ih b z) with q | q
  ·exact(hf b hb).2.1 q
  ·exact(hf b hb).2.2.1 q
 ·by_cases hlt:i<nt
  ·rw[zj (by rw[pM]; exact hlt),Kw,bh hlt] at e2
   cases e2
  ·obtain⟨i',rfl⟩:∃i',i=nt+i':=⟨i-nt,∅⟩
   rw[vy (by rw[pM]; omega),pM,Nat.add_sub_cancel_left] at e2
   have e2':(bQ js σ)[i']?=some (some v):=e2;unfold bQ at e2';rw[cA] at e2';cases hj:js[i']? with
   | none=>rw[hj] at e2'; simp at e2'
   | some j=>
    rw[hj] at e2';have e4:(σ[j]?).join=some v:=by simpa using e2'
    have e5:σ[j]?=some (some v):=by
     cases q:σ[j]? with
     | none=>rw[q] at e4; simp at e4
     | some z=>rw[q] at e4; simp at e4; rw[e4]
    have e6:X.N[j]?=some x:=by rw[<- S.cap i' j hj]; exact e1
    have mem:x∈N'.drop nt:=by
     have e1':N'[nt+i']?=some x:=e1;exact dC (i:=i') (by rw[Gh]; exact e1')
    obtain⟨k1,k2⟩:=S.RL x mem;obtain⟨m,_,hl⟩:=I.loc;obtain⟨u,r,l⟩:=hl j x v e6 e5 (.inr (.inl k1));refine⟨u,r,.inr ⟨.inl (rG I.ok.kind k1 sc.names k2),?_⟩⟩;rcases l with⟨z,_⟩ | ⟨_,c,hc,hcell⟩
    ·rw[k1] at z; cases z
    ·obtain⟨o,ho,hd⟩:=hcell;exact⟨c,DG sc.names _ _ (fun z=>by have:=S.cells _ z rfl; rw[k2] at this; cases this) (JK hc sc.names [] (PySem.mem_of_lookup k2)),o,hk c o ho,hd⟩
 ·rcases DK e with z | ⟨z,_⟩
  ·exact⟨none,z.1⟩
  ·obtain⟨v,o,ho,hd⟩:=I.cell x c (gP z);exact⟨v,o,hk c o ho,hd⟩
 ·show(List.replicate nt none++bQ js σ).length=N'.length;rw[S.len]; simp[bQ]
theorem Lr:∀{names:List (Str×NameKind)}{n:Nat}{acc:List (Str×Addr)},(∀y∈names,y.2≠.cell)->cellsFrom n names acc=acc
 | [],_,_,_=>rfl
 | (name,kind)::r,n,acc,h=>by
  unfold cellsFrom;rw[aX (fun z=>h _ dg (by simpa using z))]
  exact Lr fun y hy=>h y (cI _ hy)
theorem Bm{X:Cx}{N':List Str}{sc:Scope}{fp:List Addr}{s:AB}{H:Hp}(h:∀y∈sc.names,y.2≠.cell):Sx X N' sc fp s H=pC X N' sc fp s H:=by
 have e:(fun _:Str=>false)=fun y=>sc.names.lookup y==some .cell:=funext fun y=>by
  cases z:sc.names.lookup y==some NameKind.cell with
  | false=>rfl
  | true=>exact absurd rfl (h _ (PySem.mem_of_lookup (by simpa using z)))
 unfold Sx pC;rw[Lr h,e]
theorem sW.toD{X:Cx}{nt:Nat}{N':List Str}{js:List Nat}{sc:Scope}(S:sW X nt N' js sc):qU X nt N' js sc:=⟨S.kind,fun y hy e=>absurd e (S.lX y hy),S.names,S.clos,S.all,S.len,S.cap,S.RL⟩
structure Hu(X:Cx)(ifs:List Expr)(t:TT):Prop where
 mk ::
 go:∀(ae:List (Addr×Obj))(s:AB)(σ:St)(H:Hp)(Q:Bool->Hp->Prop),Inv X ae σ H s->t σ H Q->wpAny (model X.prog X.w) X.A (forIn ifs true fun c r=>if r=true then do let ok <- isTrue c X.env (eval c X.env); pure (ForInStep.yield ok) else pure (ForInStep.yield r)) (TP X ae σ Q) X.xe s
instance {X:Cx} {ifs:List Expr} {t:TT}:CoeFun (Hu X ifs t) (fun _=>
 ∀(ae:List (Addr×Obj))(s:AB)(σ:St)(H:Hp)(Q:Bool->Hp->Prop),Inv X ae σ H s->t σ H Q->wpAny (model X.prog X.w) X.A (forIn ifs true fun c r=>if r=true then do let ok <- isTrue c X.env (eval c X.env); pure (ForInStep.yield ok) else pure (ForInStep.yield r)) (TP X ae σ Q) X.xe s):=⟨Hu.go⟩
def tL:TT:=fun _ H Q=>Q true H
theorem gW{X:Cx}:Hu X [] tL:=.mk fun ae s σ H Q I h=>wpAny_tests_nil ⟨H,I,h⟩
def ik(nt:Nat)(js:List Nat)(wi:TI)(g:TG)(tc:TT)(te:TE):TE:=fun σ H Q=>wi σ H fun J H1=>∀acc,H1 acc=none->∃W:Nat->Nat->List V->Hp->Prop,(∃m,W 0 m [] (upd H1 acc (.lst [])))/\∀i m ys H2,W i m ys H2 ->
 (J.stop i H2/\Q (.ref acc) H2)\/(J.go i H2/\∀x H3,J.Er i H2 x H3->g x (List.replicate nt none++bQ js σ) H3 fun σ' H'=>(σ'.drop nt=bQ js σ/\σ'.length=(List.replicate nt (none:Option V)++bQ js σ).length)/\tc σ' H' fun b dF=>
  if b=true then te σ' dF fun y H4=>H4 acc=some (.lst ys)/\ys.length<sizeLine/\∃m',m'<m/\W (i+1) m' (ys++[y]) (upd H4 acc (.lst (ys++[y]))) else ∃m',m'<m/\W (i+1) m' ys dF)
theorem Dy{prog:AC}{w:World}{A:Around}{R:Result->AB->Prop}{s:AB}{elt target iter:Expr}{ifs:List Expr}{sc:Scope}{pos:Pos}{it acc:AA}{env:Env}(Iv:Nat->AB->Prop)
  (turn:∀n s,Iv n s->wpAny (model prog w) A (pyNext it) (fun r s1=>match r with
   | none=>R (.ok .next) s1
   | some v=>wpAny (model prog w) A (letOwnedTupleGo target it v) (fun _ s2=>wpAny (model prog w) A (assign target env v) (fun _ s3=>
     wpAny (model prog w) A (forIn ifs true fun c r=>if r=true then do let ok <- isTrue c env (eval c env); pure (ForInStep.yield ok) else pure (ForInStep.yield r)) (fun ok s3'=>
     if ok=true then wpAny (model prog w) A (eval elt env) (fun x s4=>
     wpAny (model prog w) A (call (.builtin "list.append") [acc,x]) (fun _ s5=>∃m,m<n/\Iv m s5) (fun _ _=>False) s4) (fun _ _=>False) s3' else ∃m,m<n/\Iv m s3') (fun _ _=>False) s3) (fun _ _=>False) s2) (fun _ _=>False) s1) (fun _ _=>False) s)
  (n:Nat) (h:Iv n s):codeAny (model prog w) A (.compLoop (.ListComp elt [⟨target,iter,ifs,0⟩] sc pos) 0 it acc env) R s:=by
 refine codeAny_loop rfl Iv (fun n s hI=>?_) n h;show wpAny _ _ ((compTurn (.ListComp elt [⟨target,iter,ifs,0⟩] sc pos) 0 it acc env).onRaise (fun x=>do noteFrame x env; theTreesLotGoes x)) _ _ s
 refine wpAny_noted ?_;rw[compTurn_list];refine aN (Cm (aN (nW (turn n s hI) (fun r s1 q1=>?_) fun _ _ f=>f.elim)));cases r with
 | none=>exact bV q1
 | some v=>
  refine aN (nW q1 (fun _ s2 q2=>?_) fun _ _ f=>f.elim);refine aN (nW q2 (fun _ s3 q3=>aN (nW q3 (fun ok s3' q3'=>?_) fun _ _ f=>f.elim)) fun _ _ f=>f.elim);cases ok with
  | false=>exact bV ⟨rfl,q3'⟩
  | true=>exact aN (aN (nW q3' (fun x s4 q4=>aN (nW q4 (fun _ s5 q5=>bV (bV ⟨rfl,q5⟩)) fun _ _ f=>f.elim)) fun _ _ f=>f.elim))
theorem yE{X:Cx}{elt iter:Expr}{tg:Expr}{ifs:List Expr}{g:TG}{tc:TT}{nt:Nat}{pos:Pos}{sc:Scope}{wi:TI}{te:TE}{N':List Str}{js:List Nat}{use:Option (AA->Sem Unit)}{Qc:AA->AB->Prop}{ae:List (Addr×Obj)}{s:AB}{σ:St}{H:Hp}{Q:VK}{kp:Pos}(hc:X.calm=true)(hi:PI X tg iter wi)(S:qU X nt N' js sc)
  (hgt:∀fp s H,PG (pC X N' sc fp s H) tg g) (hif:∀fp s H,Hu (pC X N' sc fp s H) ifs tc) (he:∀fp s H,PE (pC X N' sc fp s H) elt te) (hs:∀x,foldedSetIterable iter X.env x=pure x) (I:Inv X ae σ H s) (h:ik nt js wi g tc te σ H Q)
  (fin:∀(acc C:Addr)(H':Hp)(s':AB),Inv X ae σ H' s'->fD X ae H' C->(∃m,s'.heap.Ns C m)->Q (.ref acc) H'->compPost (model X.prog X.w) X.A X.xe use Qc (.ref acc) C (.ok .next) s') :
  wpAny (model X.prog X.w) X.A (comprehension (.ListComp elt [⟨tg,iter,ifs,0⟩] sc pos) sc X.env kp (newList []) false (eval iter X.env) use) Qc X.xe s:=by
 refine wpAny_comprehension_free (use:=use) rfl hs S.clos S.kind S.names ?_;refine cz (hi ae s σ H _ I h) fun v s1 q1=>cz q1 fun itv s2 q2=>?_;refine mK q2 fun it fp tn J H2 e I2 T st2 f2 q3=>?_; clear q2;subst e;refine xG ?_;obtain⟨W,⟨m0,w0⟩,turn⟩:=q3 s2.heap.objs.size I2.fresh;have I3:=I2.XX (ys:=[]) (its:=[]) (t':=s2.toks) .nil (gC _)
 have lt2:∀b∈fp,b<s2.heap.objs.size:=fun b hb=>by
  obtain⟨o,ho,_⟩:=T.obj 0 _ st2 b hb;exact bH ho
 generalize e3:({ s2 with heap:=s2.heap.push { cls:=.type "list",data:=.seq ([]:List AA).toArray },toks:=s2.toks }:AB)=s3 at I3
 have e3':({ s2 with heap:=s2.heap.push { cls:=.type "list",dict:=none,data:=.seq ([]:List AA).toArray } }:AB)=s3:=e3
 have sz3:s3.heap.objs.size=s2.heap.objs.size+1:=by rw[<- e3]; exact fQ ..
 have st3:tn 0 s3.heap:=T.keep 0 _ _ st2 fun b hb o ho=>by rw[<- e3]; exact fB _ ho
 have lt3:∀b∈fp,b<s3.heap.objs.size:=fun b hb=>by rw[sz3]; exact FP (lt2 b hb)
 have f3:∀b∈fp,fD X ae (upd H2 s2.heap.objs.size (.lst [])) b:=fun b hb=>⟨by rw[aH (dJ (lt2 b hb))]; exact(f2 b hb).1,(f2 b hb).2⟩
 generalize hH3:upd H2 s2.heap.objs.size (.lst [])=H3 at I3 f3 w0;refine pU ?_;generalize Yq:pushCells (s3.heap.push { cls:=.type "dict",data:=.dict #[] }) sc.names=h1;have hk:∀b o,s3.heap.get? b=some o->h1.get? b=some o:=fun b o q=>by rw[<- Yq]; exact pushCells_keeps _ _ b o (fB _ q)
 have hns':h1.Ns s3.heap.objs.size fun _=>none:=by rw[<- Yq]; exact(Heap.Ns.new s3.heap (.type "dict")).keeps (pushCells_keeps _ _)
 have I4:Inv (pC X N' sc fp s3 H3) [] (List.replicate nt none++bQ js σ) H3 { s3 with heap:=h1,toks:=s3.toks }:=Bc I3 f3 lt3 S (fun {x c} e=>by
  have:=sy sc.names (s3.heap.push { cls:=.type "dict",data:=.dict #[] }) (qO sc X.env) x c (by rw[fQ]; exact e)
  rw[Yq,fQ] at this
  exact this) hns' hk
 have st4:tn 0 h1:=T.keep 0 _ _ st3 fun b hb o ho=>hk b o ho;have stat:∀{H':Hp},(∀b∈fp,H' b=none)->∀b∈fp,fD (pC X N' sc fp s3 H3) [] H' b:=fun hn b hb=>⟨hn b hb,dJ (lt3 b hb),I4.ok.N8 b hb,.inl hb,(I4.ok.exf b hb).2,fun p hp=>absurd (show p∈([]:List (Addr×Obj)) from hp) (by simp)⟩
 have out:∀{σ':St}{H':Hp}{s':AB},Inv (pC X N' sc fp s3 H3) [] σ' H' s'->Q (.ref s2.heap.objs.size) H'->compPost (model X.prog X.w) X.A X.xe use Qc (.ref s2.heap.objs.size) s3.heap.objs.size (.ok .next) s':=by
  intro σ' H' s' I' q';obtain⟨m,hn,_⟩:=id I'.loc;have I5:Inv X ae σ H' s':=I3.call' I'.os I'.base I'.hok I'.bare fun b hb=>⟨(f3 b hb).2.2.2.1,(f3 b hb).2.1,(f3 b hb).2.2.2.2.1,(f3 b hb).2.2.2.2.2⟩;exact fin _ _ H' s' I5 (I3.uh (bw _) I'.free) ⟨m,hn⟩ q'
 have loop:∀s4:AB,s4={ s3 with heap:=h1,toks:=s3.toks }->codeAny (model X.prog X.w) X.A (.compLoop (.ListComp elt [⟨tg,iter,ifs,0⟩] sc pos) 0 (.ref it) (.ref s2.heap.objs.size) (compEnvC sc (cellsFrom (s3.heap.objs.size+1) sc.names (qO sc X.env)) s3.heap.objs.size X.env))
   (compPost (model X.prog X.w) X.A X.xe use Qc (.ref s2.heap.objs.size) s3.heap.objs.size) s4:=by
  rintro s4 rfl;refine Dy (fun n s'=>∃i ys H',Inv (pC X N' sc fp s3 H3) [] (List.replicate nt none++bQ js σ) H' s'/\tn i s'.heap/\(∀b∈fp,H' b=none)/\W i n ys H') ?_ m0 ⟨0,[],H3,I4,st4,fun b hb=>(f3 b hb).1,w0⟩;intro n s5 yL; refine kJ yL fun i ys H5 I5 Tv Yl w5=>?_; clear yL;rcases turn i n ys H5 w5 with⟨stop,qn⟩ | ⟨go,step⟩
  ·refine cz (T.done (pC X N' sc fp s3 H3) rfl rfl rfl hc i [] s5 _ H5 (fun _ _=>False) I5 (stat Yl) Tv stop) fun r s6 qx=>?_;obtain⟨hr,I6⟩:=qx;subst hr;exact out I6 qn
  ·refine cz (T.item (pC X N' sc fp s3 H3) rfl rfl rfl hc i [] s5 _ H5 (fun _ _=>False) I5 (stat Yl) Tv go) fun r s6 qx=>?_;obtain⟨u,hr,q6⟩:=qx;subst hr;refine cz q6 fun _ s7 qx=>?_;refine Gk qx fun y H7 I7 r7 y7 Tu Wg=>?_; clear qx;have I7':=I7.pinned (stat Wg) (T.obj _ _ Tu);refine cz (hgt fp s3 H3 _ s7 _ H7 y u _ I7' r7 (step y _ y7)) fun _ s8 qx=>?_;refine bG qx fun σ8 H8 I8 hsh q8=>?_; clear qx;refine cz (hif fp s3 H3 _ s8 _ _ _ I8 q8) fun b s8' qx=>?_;obtain⟨H8',I8',q8'⟩:=qx
   have wk:∀k v,(List.replicate nt none++bQ js σ)[k]?=some (some v)->σ8[k]?=some (some v):=fun k v e=>by
    by_cases hlt:k<nt
    ·rw[zj (by rw[pM]; exact hlt),Kw,bh hlt] at e
     cases e
    ·rw[vy (by rw[pM]; omega),pM,<- hsh.1,Gh] at e
     rw[show nt+(k-nt)=k by omega] at e
     exact e
   cases b with
   | true=>
    rw[bh rfl] at q8' ⊢;refine cz (he fp s3 H3 _ s8' _ _ _ I8' q8') fun z s9 qx=>?_;obtain⟨vz,H9,I9,r9,ha,hz,m',hm,w9⟩:=qx;refine cz (eZ (X:=pC X N' sc fp s3 H3) _ s9 _ H9 (.ref s2.heap.objs.size) [vz] (.ref s2.heap.objs.size) [z] (fun _ H'=>H'=upd H9 s2.heap.objs.size (.lst (ys++[vz]))) I9 rfl (.cons r9 .nil) ⟨_,ys,vz,rfl,rfl,ha,hz,rfl⟩) fun _ Ah qx=>?_;obtain⟨_,J0,ZC,_,e10⟩:=qx;subst e10;refine⟨m',hm,i+1,ys++[vz],_,(ZC.gZ).weak hsh.2.symm wk,T.keep _ _ _ Tu fun b hb o e=>(ZC.pin (b,o) (iI _ (iI _ (cV hb e)))).1,fun b hb=>?_,w9⟩;obtain⟨o,e,d⟩:=T.obj _ _ Tu b hb;exact(ZC.pin (b,o) (iI _ (iI _ (cV hb e)))).2.1
   | false=>
    rw[aX ⋯] at q8' ⊢
    obtain⟨m',hm,w9⟩:=q8';refine⟨m',hm,i+1,ys,_,(I8'.gZ).weak hsh.2.symm wk,T.keep _ _ _ Tu fun b hb o e=>(I8'.pin (b,o) (iI _ (iI _ (cV hb e)))).1,fun b hb=>?_,w9⟩;obtain⟨o,e,d⟩:=T.obj _ _ Tu b hb;exact(I8'.pin (b,o) (iI _ (iI _ (cV hb e)))).2.1
 exact codeAny_compStart_list (loop _ rfl) (T.self X.A 0 _ _ _ st4 (loop _ rfl))
theorem QC{X:Cx}{elt iter:Expr}{tg:Expr}{ifs:List Expr}{g:TG}{tc:TT}{nt:Nat}{y:Str}{py pos spos:Pos}{sc:Scope}{wi:TI}{te:TE}{N':List Str}{js:List Nat}{i:Nat}(hN:X.N.Nodup)(hi':X.N[i]?=some y)(hy:Loc X.env.scope y)(hc:X.calm=true)(hi:PI X tg iter wi)(S:qU X nt N' js sc)
  (hgt:∀fp s H,PG (pC X N' sc fp s H) tg g) (hif:∀fp s H,Hu (pC X N' sc fp s H) ifs tc) (he:∀fp s H,PE (pC X N' sc fp s H) elt te) (hs:‹∀x,foldedSetIterable iter X.env x=pure x›) (hw: ~~~(swapsWith (.ListComp elt [⟨tg,iter,ifs,0⟩] sc pos) (some (.Name y py)) spos.line X.env=pure true))
  (hf: autoParam (X.fn y=true\/X.env.scope.names.lookup y=some .local) z_d._auto_1) :
  PS X (.Assign [.Name y py] (.ListComp elt [⟨tg,iter,ifs,0⟩] sc pos) spos) (qu (ik nt js wi g tc te) (dh i)):=by
 symm;intro D I h;rw[exec_Assign_Name_used _ _ _ _ hw];refine aN (Cm (aN ?_));refine aN (yE hc hi S hgt hif he hs I h fun acc C H' s' I5 fc ⟨m,hn⟩ q=>?_)
 have ho:∀b∈[C],∃o,s'.heap.get? b=some o/\∀v,o.data≠.cell v:=fun b hb=>by
  rw[fV.mp hb];obtain⟨o,es,n,e,ed,_⟩:=hn;exact⟨o,e,fun v z=>by rw[ed] at z; cases z⟩
 have I6:=I5.pinned (fp:=[C]) (fun b hb=>by rw[fV.mp hb]; exact fc) ho
 have hg:PG X (.Name y py) (dh i):=aC hN hi' hy hf;show wpAny _ _ (assign (.Name y py) X.env (.ref acc)) (fun _ s''=>∃m,s''.heap.Ns C m/\∀h',Heap.SameBut C s''.heap h'->_) _ s';refine cz (hg _ s' _ H' (.ref acc) (.ref acc) _ I6 rfl q) fun _ s7 qx=>?_;obtain⟨σ7,H7,I7,q7⟩:=qx
 have pc:∀o,s'.heap.get? C=some o->s7.heap.get? C=some o/\H7 C=none:=fun o e=>by
  have:=I7.pin (C,o) (iI _ (iI _ (cV (by simp) e)))
  exact⟨this.1,this.2.1⟩
 refine⟨m,hn.at fun o e=>(pc o e).1,fun h' sb=>bV (bV ⟨σ7,H7,?_,q7⟩)⟩
 have fr:H7 C=none:=by
  obtain⟨o,es,n,e,ed,_⟩:=hn;exact(pc o e).2
 exact I7.gZ.turned (it:=C) (t':=s7.toks) (fun b o hb e=>sb.extBut b o hb e) fr fc.2.1 fc.2.2.2.1 fc.2.2.2.2.1 fc.2.2.2.2.2
theorem Gu{X:Cx}{elt iter tg:Expr}{ifs:List Expr}{g:TG}{tc:TT}{nt:Nat}{pos:Pos}{sc:Scope}{wi:TI}{te:TE}{N':List Str}{js:List Nat}(hc:X.calm=true)(hi:PI X tg iter wi)(S:qU X nt N' js sc)
  (hgt:∀fp s H,PG (pC X N' sc fp s H) tg g) (hif:∀fp s H,Hu (pC X N' sc fp s H) ifs tc) (he:∀fp s H,PE (pC X N' sc fp s H) elt te) (hs:‹∀x,foldedSetIterable iter X.env x=pure x›):PE X (.ListComp elt [⟨tg,iter,ifs,0⟩] sc pos) (ik nt js wi g tc te):=by
 symm;intro Q I h;rw[eval_ListComp];refine yE (use:=none) hc hi S hgt hif he hs I h fun acc C H' s' I5 fc ⟨m,hn⟩ q=>?_;refine⟨m,hn,fun h' sb=>?_⟩;exact⟨.ref acc,H',I5.turned (it:=C) (t':=s'.toks) (fun b o hb q=>sb.extBut b o hb q) fc.1 fc.2.1 fc.2.2.2.1 fc.2.2.2.2.1 fc.2.2.2.2.2,rfl,q⟩
theorem qU.of{X:Cx}{nt:Nat}{N':List Str}{js:List Nat}{sc:Scope}(k: ~~~(sc.kind=.function))(n: autoParam ((sc.names.all fun y=>y.2 != .cell || sc.names.lookup y.1==some .cell)=true) z_h._auto_1)
  (l: autoParam ((sc.names.all fun y=>y.2 != .local || sc.names.lookup y.1==some .local)=true) z_h._auto_1) (al: ~~~((sc.names.all fun y=>y.2 != .free || (X.env.cells.lookup y.1).isSome)=true))
  (ln: ~~~(N'.length=nt+js.length)) (cp: ~~~((N'.drop nt).map some=js.map (fun j=>X.N[j]?))) (ck: ~~~(((N'.drop nt).all fun y=>X.env.kindOf y==some .cell&&sc.names.lookup y==some .free)=true)):qU X nt N' js sc:=by
 have n':∀y∈sc.names,y.2=.cell->sc.names.lookup y.1=some .cell:=fun y hy hc=>by
  have:=pK.mp n y hy;rw[hc] at this;simpa using this
 refine⟨k,n',oE l,jl al,al,ln,fun i j h=>?_,fun y h=>?_⟩
 ·have:=pI (fun l=>l[i]?) cp;simp only[cA,Gh,h,Option.map_some] at this;cases e:N'[nt+i]? with
  | none=>rw[e] at this; cases this
  | some y=>rw[e] at this; exact Option.some.inj this
 ·have:=pK.mp ck y h;simpa using this
theorem xQ{X:Cx}{elt iter:Expr}{tg:Expr}{ifs:List Expr}{g:TG}{tc:TT}{nt:Nat}{y:Str}{py pos spos:Pos}{sc:Scope}{wi:TI}{te:TE}{N':List Str}{js:List Nat}{i:Nat}(hN:X.N.Nodup)(hi':X.N[i]?=some y)(hy:Loc X.env.scope y)(hc:X.calm=true)(hi:PI X tg iter wi)(S:sW X nt N' js sc)
  (hgt:∀fp s H,PG (Sx X N' sc fp s H) tg g) (hif:∀fp s H,Hu (Sx X N' sc fp s H) ifs tc) (he:∀fp s H,PE (Sx X N' sc fp s H) elt te) (hs:‹∀x,foldedSetIterable iter X.env x=pure x›) (hw: ~~~(swapsWith (.ListComp elt [⟨tg,iter,ifs,0⟩] sc pos) (some (.Name y py)) spos.line X.env=pure true))
  (hf: autoParam (X.fn y=true\/X.env.scope.names.lookup y=some .local) z_d._auto_1) :
  PS X (.Assign [.Name y py] (.ListComp elt [⟨tg,iter,ifs,0⟩] sc pos) spos) (qu (ik nt js wi g tc te) (dh i)):=QC hN hi' hy hc hi S.toD (fun fp s H=>Bm S.lX▸hgt fp s H) (fun fp s H=>Bm S.lX▸hif fp s H) (fun fp s H=>Bm S.lX▸he fp s H) hs hw hf
theorem kY{X:Cx}{elt iter tg:Expr}{ifs:List Expr}{g:TG}{tc:TT}{nt:Nat}{pos:Pos}{sc:Scope}{wi:TI}{te:TE}{N':List Str}{js:List Nat}(hc:X.calm=true)(hi:PI X tg iter wi)(S:sW X nt N' js sc)
  (hgt:∀fp s H,PG (Sx X N' sc fp s H) tg g) (hif:∀fp s H,Hu (Sx X N' sc fp s H) ifs tc) (he:∀fp s H,PE (Sx X N' sc fp s H) elt te) (hs:‹∀x,foldedSetIterable iter X.env x=pure x›):PE X (.ListComp elt [⟨tg,iter,ifs,0⟩] sc pos) (ik nt js wi g tc te):=Gu hc hi S.toD (fun fp s H=>Bm S.lX▸hgt fp s H) (fun fp s H=>Bm S.lX▸hif fp s H) (fun fp s H=>Bm S.lX▸he fp s H) hs
theorem sX.toG{X:Cx}{N':List Str}{js:List Nat}{sc:Scope}(S:sX X N' js sc):sW X 1 N' js sc:=⟨S.kind,S.lX,S.names,S.clos,S.all,by rw[S.len,Nat.add_comm],fun i j h=>by rw[Nat.add_comm]; exact S.cap i j h,fun y h=>S.RL y (by rw[<- List.drop_one]; exact h)⟩
theorem J9{js:List Nat}{wi:TI}{te:TE}:iB js wi te=ik 1 js wi (dh 0) tL te:=by
 funext σ H Q
 have e:∀(x:V)(H3:Hp)(K1:VK)(K2:Hp->Prop),te (some x::bQ js σ) H3 K1=dh 0 x (List.replicate 1 none++bQ js σ) H3 fun σ' H'=>(σ'.drop 1=bQ js σ/\σ'.length=(List.replicate 1 (none:Option V)++bQ js σ).length)/\tL σ' H' fun b dF=>if b=true then te σ' dF K1 else K2 dF:=fun x H3 K1 K2=>propext ⟨fun h=>⟨⟨rfl,rfl⟩,h⟩,fun h=>h.2⟩
 unfold iB ik;refine pI (wi σ H) (funext fun J=>funext fun H1=>?_);refine propext ⟨fun h acc ha=>?_,fun h acc ha=>?_⟩
 ·obtain⟨W,h0,hs⟩:=h acc ha;refine⟨W,h0,fun i m ys H2 w=>(hs i m ys H2 w).imp id fun z=>⟨z.1,fun x H3 y=>?_⟩⟩;have:=z.2 x H3 y;rw[e x H3 _ fun dF=>∃m',m'<m/\W (i+1) m' ys dF] at this;exact this
 ·obtain⟨W,h0,hs⟩:=h acc ha;refine⟨W,h0,fun i m ys H2 w=>(hs i m ys H2 w).imp id fun z=>⟨z.1,fun x H3 y=>?_⟩⟩;rw[e x H3 _ fun dF=>∃m',m'<m/\W (i+1) m' ys dF];exact z.2 x H3 y
theorem cX{X:Cx}{elt iter:Expr}{x:Str}{px pos:Pos}{sc:Scope}{wi:TI}{te:TE}{N':List Str}{js:List Nat}(hc:X.calm=true)(hi:PI X (.Name x px) iter wi)(S:sX X N' js sc)(h0:N'[0]?=some x)(nd:N'.Nodup)
  (hx:sc.names.lookup x=some .local) (he:∀fp s H,PE (Sx X N' sc fp s H) elt te) (hs:‹∀x,foldedSetIterable iter X.env x=pure x›):PE X (.ListComp elt [⟨.Name x px,iter,[],0⟩] sc pos) (iB js wi te):=by
 rw[J9];exact kY hc hi S.toG (fun _ _ _=>aC nd h0 (.inl (gB hx)) (.inr (gB hx))) (fun _ _ _=>gW) he hs
theorem Cy{X:Cx}{elt iter:Expr}{x y:Str}{px py pos spos:Pos}{sc:Scope}{wi:TI}{te:TE}{N':List Str}{js:List Nat}{i:Nat}(hN:X.N.Nodup)(hi':X.N[i]?=some y)(hy:Loc X.env.scope y)(hc:X.calm=true)(hi:PI X (.Name x px) iter wi)(S:sX X N' js sc)(h0:N'[0]?=some x)(nd:N'.Nodup)
  (hx:sc.names.lookup x=some .local) (he:∀fp s H,PE (Sx X N' sc fp s H) elt te) (hs:‹∀x,foldedSetIterable iter X.env x=pure x›) (hw: ~~~(swapsWith (.ListComp elt [⟨.Name x px,iter,[],0⟩] sc pos) (some (.Name y py)) spos.line X.env=pure true))
  (hf: autoParam (X.fn y=true\/X.env.scope.names.lookup y=some .local) z_d._auto_1) :
  PS X (.Assign [.Name y py] (.ListComp elt [⟨.Name x px,iter,[],0⟩] sc pos) spos) (qu (iB js wi te) (dh i)):=by
 rw[J9];exact xQ hN hi' hy hc hi S.toG (fun _ _ _=>aC nd h0 (.inl (gB hx)) (.inr (gB hx))) (fun _ _ _=>gW) he hs hw hf
theorem sW.of{X:Cx}{nt:Nat}{N':List Str}{js:List Nat}{sc:Scope}(k: ~~~(sc.kind=.function))(n: autoParam ((sc.names.all fun y=>y.2 != .cell)=true) z_h._auto_1)
  (l: autoParam ((sc.names.all fun y=>y.2 != .local || sc.names.lookup y.1==some .local)=true) z_h._auto_1) (al: ~~~((sc.names.all fun y=>y.2 != .free || (X.env.cells.lookup y.1).isSome)=true))
  (ln: ~~~(N'.length=nt+js.length)) (cp: ~~~((N'.drop nt).map some=js.map (fun j=>X.N[j]?))) (ck: ~~~(((N'.drop nt).all fun y=>X.env.kindOf y==some .cell&&sc.names.lookup y==some .free)=true)):sW X nt N' js sc:=by
 have n':∀y∈sc.names,y.2≠.cell:=fun y hy=>by have:=pK.mp n y hy; simpa using this
 refine⟨k,n',oE l,jl al,al,ln,fun i j h=>?_,fun y h=>?_⟩
 ·have:=pI (fun l=>l[i]?) cp;simp only[cA,Gh,h,Option.map_some] at this;cases e:N'[nt+i]? with
  | none=>rw[e] at this; cases this
  | some y=>rw[e] at this; exact Option.some.inj this
 ·have:=pK.mp ck y h;simpa using this
section
variable{prog:AC}{w:World}{A:Around}{E:AA->AB->Prop}{s:AB}
theorem _root_.PySem.Heap.ExtBut.trans'{b:Addr}{h h1 h2:Heap}(x:Heap.ExtBut b h h1)(y:∀c o,h1.get? c=some o->h2.get? c=some o):Heap.ExtBut b h h2:=fun c o n e=>y c o (x c o n e)
end
section
variable{X:Cx}
end
structure Ws(z TI TO i1 i2:Addr)(f1 f2:List Addr):Prop where
 a1:TI≠z
 a2:TO≠z
 a3:TI≠TO
 a4:i1≠z
 a5:i2≠z
 a6:TO≠i1
 a7:TO≠i2
 a8:i1≠i2
 b1:z∉f1
 b2:z∉f2
 b3:TO∉f1
 b4:TO∉f2
 b5:i1∉f2
 b6:i2∉f1
section
variable{prog:AC}{w:World}{A:Around}{E:AA->AB->Prop}{s:AB}
theorem mV{b:Addr}{h h':Heap}{f:List Addr}(sb:Heap.SameBut b h h')(hb:b∉f):∀c∈f,∀o,h.get? c=some o->h'.get? c=some o:=fun c hc o e=>sb.extBut c o (fun z=>hb (z▸hc)) e
theorem O4{z TI TO i1 i2:Addr}{f1 f2:List Addr}{n1 n2 k:Nat}{P1 P2:Nat->AA->Prop}{S1 S2:Nat->Heap->Prop}{a b:AA}{Q:AA->AB->Prop}(Z:Ws z TI TO i1 i2 f1 f2)(D1:Draws prog w A i1 f1 n1 P1 S1)(D2:Draws prog w A i2 f2 n2 P2 S2)
  (hz:IsZip s.heap z TI TO .none) (hi:IsPair s.heap TI (.ref i1) (.ref i2)) (ho:IsPair s.heap TO a b) (s1:S1 k s.heap) (s2:S2 k s.heap) (k1:k<n1) (k2:k<n2)
  (q:∀x y h' tk,P1 k x->P2 k y->IsZip h' z TI TO (rawInt s.heap.objs.size)->IsPair h' TO x y->S1 (k+1) h'->S2 (k+1) h'->IsPair h' s.heap.objs.size x y->h'.objs.size=s.heap.objs.size+1->(∀c o,c≠z->c≠TO->c≠i1->c≠i2->s.heap.get? c=some o->h'.get? c=some o)->Q (.ref s.heap.objs.size) { s with heap:=h',toks:=tk }) :
  wpAny (model prog w) A (Builtin.«zip.__next__» ⟨[.ref z],[]⟩) (fun fin s'=>∃v,fin=.done (.ret v)/\Q v s') E s:=by
 show wpAny _ _ (field (.ref z) 2 >>= _) _ _ _; refine aN (fP hz rfl (x:=.bool false) rfl ?_);show wpAny _ _ (field (.ref z) 3 >>= _) _ _ _; refine aN (fP hz rfl (x:=.ref TI) rfl (aN (mW hi rfl ?_)));show wpAny _ _ (Builtin.SmallTypes.ownedTupleIsFree (.ref z) >>= _) _ _ _; unfold Builtin.SmallTypes.ownedTupleIsFree;refine aN (aN (fP hz rfl (x:=.none) rfl (bV ?_))); simp only[if_true];refine aN (yW (aN (fP hz rfl (x:=.ref TO) rfl (aN (vq hz (by simp) fun hA zA sA=>?_)))))
 replace zA:IsZip hA z TI TO .ellipsis:=zA
 refine aN ?_; simp only[Ko,List.zipIdx_nil,za,xN];refine aN (aN (Fw ?_)); show wpAny _ _ (Builtin.SmallTypes.nextOf (.ref i1) >>= _) _ _ _;refine aN (D1.item k _ _ _ k1 (D1.frame _ _ _ s1 (mV sA Z.b1)) fun x hB tB pB Zf sB=>bV ?_);have oB:IsPair hB TO a b:=sB.extBut _ _ Z.a6 (sA.extBut _ _ Z.a2 ho);have uB:S2 k hB:=D2.frame _ _ _ (D2.frame _ _ _ s2 (mV sA Z.b2)) (mV sB Z.b5);refine aN (mW oB rfl (aN (wpAny_updateSeq_pair oB fun hC oC sC=>?_)))
 replace oC:IsPair hC TO x b:=oC
 refine aN (yX (bV (aN (aN (Fw ?_))))); show wpAny _ _ (Builtin.SmallTypes.nextOf (.ref i2) >>= _) _ _ _;refine aN (D2.item k _ _ _ k2 (D2.frame _ _ _ uB (mV sC Z.b4)) fun y hD tD pD std sD=>bV ?_);have oD:IsPair hD TO x b:=sD.extBut _ _ Z.a7 oC;refine aN (mW oD rfl (aN (wpAny_updateSeq_pair oD fun hF oF sF=>?_)))
 replace oF:IsPair hF TO x y:=oF
 refine aN (yX (bV (bV (aN (mW oF rfl (aN (wpAny_newTuple ?_)))))));have zF:IsZip hF z TI TO .ellipsis:=sF.extBut _ _ Z.a2.symm (sD.extBut _ _ Z.a5.symm (sC.extBut _ _ Z.a2.symm (sB.extBut _ _ Z.a4.symm zA)));have size:hF.objs.size=s.heap.objs.size:=by rw[sF.1,sD.1,sC.1,sB.1,sA.1]
 have lz:z<hF.objs.size:=bH zF;show wpAny _ _ (Builtin.SmallTypes.ownedTupleHandOut (.ref z) (.ref hF.objs.size) >>= _) _ _ _; unfold Builtin.SmallTypes.ownedTupleHandOut;have zG:IsZip (hF.push { cls:=.type "tuple",data:=.seq #[x,y] }) z TI TO .ellipsis:=fB _ zF;refine aN (aN (vq zG (by simp) fun hI zI sI=>?_))
 replace zI:IsZip hI z TI TO (rawInt hF.objs.size):=zI
 refine vq zI (by simp) fun hJ zJ sJ=>bV ⟨_,rfl,?_⟩
 replace zJ:IsZip hJ z TI TO (rawInt hF.objs.size):=zJ
 have up:∀c o,c≠z->hF.get? c=some o->hJ.get? c=some o:=fun c o n e=>sJ.extBut _ _ n (sI.extBut _ _ n (fB _ e));have tJ:IsPair hJ hF.objs.size x y:=sJ.extBut _ _ (xu lz) (sI.extBut _ _ (xu lz) (cO _ rfl));have szJ:hJ.objs.size=hF.objs.size+1:=by rw[sJ.1,sI.1,fQ]
 have kB:∀c o,c≠z->c≠TO->c≠i1->c≠i2->s.heap.get? c=some o->hF.get? c=some o:=fun c o n1 n2 n3 n4 e=>sF.extBut _ _ n2 (sD.extBut _ _ n4 (sC.extBut _ _ n2 (sB.extBut _ _ n3 (sA.extBut _ _ n1 e))));have u1:S1 (k+1) hF:=D1.frame _ _ _ (D1.frame _ _ _ (D1.frame _ _ _ Zf (mV sC Z.b3)) (mV sD Z.b6)) (mV sF Z.b3);have u2:S2 (k+1) hF:=D2.frame _ _ _ std (mV sF Z.b4);show Q (.ref hF.objs.size) _;rw[size] at zJ tJ szJ ⊢;exact q x y hJ tD pB pD zJ (up _ _ Z.a2 oF) (D1.frame _ _ _ u1 fun c hc o e=>up c o (fun z'=>Z.b1 (z'▸hc)) e) (D2.frame _ _ _ u2 fun c hc o e=>up c o (fun z'=>Z.b2 (z'▸hc)) e) tJ szJ fun c o n1 n2 n3 n4 e=>up c o n1 (kB c o n1 n2 n3 n4 e)
theorem L_{z TI TO i1 i2:Addr}{f1 f2:List Addr}{n1 n2 k:Nat}{P1 P2:Nat->AA->Prop}{S1 S2:Nat->Heap->Prop}{a b:AA}{Q:Fin->AB->Prop}(Z:Ws z TI TO i1 i2 f1 f2)(D1:Draws prog w A i1 f1 n1 P1 S1)(D2:Draws prog w A i2 f2 n2 P2 S2)
  (hz:IsZip s.heap z TI TO .none) (hi:IsPair s.heap TI (.ref i1) (.ref i2)) (ho:IsPair s.heap TO a b) (s1:S1 k s.heap) (s2:S2 k s.heap) (kk:k=n1\/(k<n1/\k=n2))
  (q:∀h' e,(∀c o,c≠z->c≠TO->c≠i1->c≠i2->s.heap.get? c=some o->h'.get? c=some o)->(∃o,h'.get? e=some o/\o.cls=.type "StopIteration")->∀tk,E (.ref e) { s with heap:=h',toks:=tk }) :
  wpAny (model prog w) A (Builtin.«zip.__next__» ⟨[.ref z],[]⟩) Q E s:=by
 show wpAny _ _ (field (.ref z) 2 >>= _) _ _ _; refine aN (fP hz rfl (x:=.bool false) rfl ?_);show wpAny _ _ (field (.ref z) 3 >>= _) _ _ _; refine aN (fP hz rfl (x:=.ref TI) rfl (aN (mW hi rfl ?_)));show wpAny _ _ (Builtin.SmallTypes.ownedTupleIsFree (.ref z) >>= _) _ _ _; unfold Builtin.SmallTypes.ownedTupleIsFree;refine aN (aN (fP hz rfl (x:=.none) rfl (bV ?_))); simp only[if_true];refine aN (yW (aN (fP hz rfl (x:=.ref TO) rfl (aN (vq hz (by simp) fun hA zA sA=>?_)))))
 replace zA:IsZip hA z TI TO .ellipsis:=zA
 refine aN ?_; simp only[Ko,List.zipIdx_nil,za,xN];refine aN (aN (Fw ?_)); show wpAny _ _ (Builtin.SmallTypes.nextOf (.ref i1) >>= _) _ _ _;rcases kk with e1 | ⟨k1,e2⟩
 ·have s1':=s1;rw[e1] at s1';refine aN (D1.done _ _ _ (D1.frame _ _ _ s1' (mV sA Z.b1)) fun hB x sB hx=>?_);obtain⟨ox,gx,cx⟩:=hx;have zB:IsZip hB z TI TO .ellipsis:=sB _ _ Z.a4.symm zA;have nx:x≠z:=fun y=>by subst y; rw[zB] at gx; cases gx; exact absurd (show Value.type "zip" = Value.type "StopIteration" from cx) ⋯
  refine vq zB (by simp) fun hC _ sC=>q hC x (fun c o m1 _ m3 _ e=>sC.extBut _ _ m1 (sB _ _ m3 (sA.extBut _ _ m1 e))) ⟨ox,sC.extBut _ _ nx gx,cx⟩ _
 ·refine aN (D1.item k _ _ _ k1 (D1.frame _ _ _ s1 (mV sA Z.b1)) fun x hB tB pB Zf sB=>bV ?_);have oB:IsPair hB TO a b:=sB.extBut _ _ Z.a6 (sA.extBut _ _ Z.a2 ho);have uB:S2 k hB:=D2.frame _ _ _ (D2.frame _ _ _ s2 (mV sA Z.b2)) (mV sB Z.b5);refine aN (mW oB rfl (aN (wpAny_updateSeq_pair oB fun hC oC sC=>?_)));refine aN (yX (bV (aN (aN (Fw ?_))))); show wpAny _ _ (Builtin.SmallTypes.nextOf (.ref i2) >>= _) _ _ _;have uC:S2 n2 hC:=by rw[<- e2]; exact D2.frame _ _ _ uB (mV sC Z.b4)
  refine aN (D2.done _ _ _ uC fun hD v sD hx=>?_);obtain⟨ox,gx,cx⟩:=hx;have zD:IsZip hD z TI TO .ellipsis:=sD _ _ Z.a5.symm (sC.extBut _ _ Z.a2.symm (sB.extBut _ _ Z.a4.symm zA));have nx:v≠z:=fun y=>by subst y; rw[zD] at gx; cases gx; exact absurd (show Value.type "zip" = Value.type "StopIteration" from cx) ⋯
  refine vq zD (by simp) fun hF _ sF=>q hF v (fun c o m1 m2 m3 m4 e=>sF.extBut _ _ m1 (sD _ _ m4 (sC.extBut _ _ m2 (sB.extBut _ _ m3 (sA.extBut _ _ m1 e))))) ⟨ox,sF.extBut _ _ nx gx,cx⟩ _
theorem O3{z TI TO i1 i2:Addr}{f1 f2:List Addr}{n1 n2 k:Nat}{P1 P2:Nat->AA->Prop}{S1 S2:Nat->Heap->Prop}{a b:AA}{Q:Option AA->AB->Prop}(Z:Ws z TI TO i1 i2 f1 f2)(D1:Draws prog w A.in1 i1 f1 n1 P1 S1)(D2:Draws prog w A.in1 i2 f2 n2 P2 S2)
  (hz:IsZip s.heap z TI TO .none) (hi:IsPair s.heap TI (.ref i1) (.ref i2)) (ho:IsPair s.heap TO a b) (s1:S1 k s.heap) (s2:S2 k s.heap) (k1:k<n1) (k2:k<n2)
  (q:∀x y h' tk,P1 k x->P2 k y->IsZip h' z TI TO (rawInt s.heap.objs.size)->IsPair h' TO x y->S1 (k+1) h'->S2 (k+1) h'->IsPair h' s.heap.objs.size x y->h'.objs.size=s.heap.objs.size+1->(∀c o,c≠z->c≠TO->c≠i1->c≠i2->s.heap.get? c=some o->h'.get? c=some o)->Q (some (.ref s.heap.objs.size)) { s with heap:=h',toks:=tk }) :
  wpAny (model prog w) A (pyNext (.ref z)) Q E s:=by
 have ty:s.TypeIs (.ref z) "zip" := ⟨_,hz,rfl⟩;unfold pyNext;refine aN (Am (FT (name:=Str.ofString "__next__") ty F.slot_zip_next (zb F.slot_zip_next ty F.entry_zip_next ?_ (F.args_zip_next_1 _))));exact O4 Z D1 D2 hz hi ho s1 s2 k1 k2 fun x y h' tk p1 p2 v1 v2 v3 v4 v5 v6 v7=>bV (q x y h' tk p1 p2 v1 v2 v3 v4 v5 v6 v7)
theorem J4{z TI TO i1 i2:Addr}{f1 f2:List Addr}{n1 n2 k:Nat}{P1 P2:Nat->AA->Prop}{S1 S2:Nat->Heap->Prop}{a b:AA}{Q:Option AA->AB->Prop}(Z:Ws z TI TO i1 i2 f1 f2)(D1:Draws prog w A.in1 i1 f1 n1 P1 S1)(D2:Draws prog w A.in1 i2 f2 n2 P2 S2)
  (hz:IsZip s.heap z TI TO .none) (hi:IsPair s.heap TI (.ref i1) (.ref i2)) (ho:IsPair s.heap TO a b) (s1:S1 k s.heap) (s2:S2 k s.heap) (kk:k=n1\/(k<n1/\k=n2))
  (q:∀h' tk,(∀c o,c≠z->c≠TO->c≠i1->c≠i2->s.heap.get? c=some o->h'.get? c=some o)->Q none { s with heap:=h',toks:=tk }):wpAny (model prog w) A (pyNext (.ref z)) Q E s:=by
 have ty:s.TypeIs (.ref z) "zip" := ⟨_,hz,rfl⟩;unfold pyNext;refine aN (Am (FT (name:=Str.ofString "__next__") ty F.slot_zip_next (zb F.slot_zip_next ty F.entry_zip_next ?_ (F.args_zip_next_1 _))));refine L_ Z D1 D2 hz hi ho s1 s2 kk fun h' e k hx tk=>?_;obtain⟨o,g,c⟩:=hx;exact aN (wpAny_isInstance (T:="StopIteration") (b:=true) ⟨o,g,c⟩ isSubtype_stop (bV (q _ tk k)))
end
theorem Inv.gR{X:Cx}{ae:List (Addr×Obj)}{σ:St}{H:Hp}{s:AB}{h':Heap}{t':Nat}{fp:List Addr}(I:Inv X ae σ H s)(k:∀b o,b∉fp->s.heap.get? b=some o->h'.get? b=some o)(hf:∀b∈fp,fD X ae H b) :
  Inv X ae σ H { s with heap:=h',toks:=t' }:=by
 have ni:∀b u,H b=some u->b∉fp:=fun b u q hb=>by rw[(hf b hb).1] at q; cases q
 refine I.step (g':=s.gens) (d':=s.drawn) (ch:=fp) (fun b hb=>?_) (fun b o _ _ hc q _=>k b o hc q) (fun b o _ _ hc q _=>⟨o.slots,k b o hc q⟩) (fun _ _ _ _ n=>n) (fun b o hc q=>⟨o,k b o hc q⟩) (fun _ _ q=>q) (fun _ _ _ q=>q)
  (fun b ps q=>⟨#[],by rw[q]; simp⟩) (fun m hm=>?_) (fun b u q=>?_) I.bare
 ·obtain⟨_,f1,_,f3,f4,f5⟩:=hf b hb;exact⟨f3,(hf b hb).2.1,f4,f5⟩
 ·obtain⟨o,es,ep,ho,r⟩:=hm;exact⟨o,es,ep,k _ o (fun hb=>(hf _ hb).2.1 rfl) ho,r⟩
 ·refine(I.hok b u q).stay (fun c v hc z=>k c v ?_ z) (fun _ z=>z) fun _ _ z=>z;rcases hc with z | z
  ·rw[z]; exact ni b u q
  ·exact ni c _ z
structure Knd where
 Sq:Frag->Hp->Addr->List V->Prop
 It:Heap->Addr->Addr->Nat->Prop
 Pl:Heap->Addr->Array AA->Prop
 obj:∀{h:Heap}{i a:Addr}{n:Nat},It h i a n->∃o,h.get? i=some o/\∀v,o.data≠.cell v
 keep:∀{h h':Heap}{i a:Addr}{n:Nat},It h i a n->(∀o,h.get? i=some o->h'.get? i=some o)->It h' i a n
 inv:∀{X:Cx}{ae:List (Addr×Obj)}{σ:St}{H:Hp}{s:AB}{a:Addr}{xs:List V},Inv X ae σ H s->Sq X.K H a xs->∃us:List AA,Vals xs us/\Pl s.heap a us.toArray
 inj:∀{X:Cx}{ae:List (Addr×Obj)}{σ:St}{H:Hp}{s:AB}{a:Addr}{xs ys:List V},Inv X ae σ H s->Sq X.K H a xs->Sq X.K H a ys->xs=ys
 ne:∀{X:Cx}{ae:List (Addr×Obj)}{σ:St}{H:Hp}{s:AB}{a b:Addr}{xs:List V},Inv X ae σ H s->Sq X.K H a xs->fD X ae H b->a≠b
 dr:∀{prog:AC}{w:World}{A:Around},A.handled=none->∀{i a:Addr},a≠i->∀us:Array AA,Draws prog w A i [i,a] us.size (fun n v=>us[n]?=some v) (fun n h=>It h i a n/\Pl h a us)
def abN(k1 k2:Knd)(K:Frag)(a b:Addr):It:=
 ⟨fun i H=>∃xs ys x y,k1.Sq K H a xs/\k2.Sq K H b ys/\xs[i]?=some x/\ys[i]?=some y,fun i H v H'=>∃p x y,H p=none/\v=.ref p/\H'=upd H p (.tup [x,y])/\(∀xs,k1.Sq K H a xs->xs[i]?=some x)/\∀ys,k2.Sq K H b ys->ys[i]?=some y,
  fun i H=>∃xs ys,k1.Sq K H a xs/\k2.Sq K H b ys/\(i=xs.length\/(i<xs.length/\i=ys.length))⟩
structure aeW(k1 k2:Knd)(z TI TO i1 i2 a b:Addr)(i:Nat)(h:Heap):Prop where
 z:IsZip h z TI TO .none
 p:IsPair h TI (.ref i1) (.ref i2)
 o:∃x y,IsPair h TO x y
 l:k1.It h i1 a i
 r:k2.It h i2 b i
theorem Mr(k1 k2:Knd){P:AC}{w:World}{K:Frag}{elts:List Expr}{x1}{tp:Pos}(a b z TI TO i1 i2:Addr)(n1:TI≠z)(n2:TO≠z)(n3:TI≠TO)(n4:i1≠z)(n5:i2≠z)(n6:TO≠i1)(n7:TO≠i2)(n8:i1≠i2)(n9:TI≠i1)(n10:TI≠i2) :
  Turn P w K (.Tuple elts x1 tp) (abN k1 k2 K a b) [z,TI,TO,i1,i2] z (aeW k1 k2 z TI TO i1 i2 a b) where
 mem:=by simp
 obj:=fun i h st c hc=>by
  obtain⟨g1,g2,⟨x,y,g3⟩,g4,g5⟩:=st;simp only[bB,dM,or_false] at hc;rcases hc with rfl | rfl | rfl | rfl | rfl
  ·exact⟨_,g1,fun v q=>by cases q⟩
  ·exact⟨_,g2,fun v q=>by cases q⟩
  ·exact⟨_,g3,fun v q=>by cases q⟩
  ·exact k1.obj g4
  ·exact k2.obj g5
 keep:=fun i h h' st k=>by
  obtain⟨g1,g2,⟨x,y,g3⟩,g4,g5⟩:=st;exact⟨k z (by simp) _ g1,k TI (by simp) _ g2,⟨x,y,k TO (by simp) _ g3⟩,k1.keep g4 fun o e=>k i1 (by simp) o e,k2.keep g5 fun o e=>k i2 (by simp) o e⟩
 item:=by
  intro X hP hw hK hc i ae s σ H E I hf st hg;subst hP hw hK;obtain⟨g1,g2,⟨xo,yo,g3⟩,g4,g5⟩:=st;refine uP hg fun xs ys x y hx hy BJ=>?_; clear hg; obtain⟨ex,ey⟩:=BJ;obtain⟨us,ru,pu⟩:=k1.inv I hx;obtain⟨vs,rv,pv⟩:=k2.inv I hy;obtain⟨u,hu,Zh⟩:=ru.get ex;obtain⟨v,hv,rv'⟩:=rv.get ey;have ha:∀c∈[z,TI,TO,i1,i2],a≠c:=fun c hc=>k1.ne I hx (hf c hc);have hb:∀c∈[z,TI,TO,i1,i2],b≠c:=fun c hc=>k2.ne I hy (hf c hc);have hh:X.A.in1.handled=none:=I.ok.hd hc;have Z:Ws z TI TO i1 i2 [i1,a] [i2,b]:=⟨n1,n2,n3,n4,n5,n6,n7,n8,by simp; exact⟨n4.symm,(ha z (by simp)).symm⟩,by simp; exact⟨n5.symm,(hb z (by simp)).symm⟩,by simp; exact⟨n6,(ha TO (by simp)).symm⟩,by simp; exact⟨n7,(hb TO (by simp)).symm⟩,by simp; exact⟨n8,(hb i1 (by simp)).symm⟩,by simp; exact⟨n8.symm,(ha i2 (by simp)).symm⟩⟩
  refine O3 Z (k1.dr hh (ha i1 (by simp)) us.toArray) (k2.dr hh (hb i2 (by simp)) vs.toArray) g1 g2 g3 (show _/\_ from⟨g4,pu⟩) (show _/\_ from⟨g5,pv⟩) (by have:=(jF.mp hu).1; simpa using this) (by have:=(jF.mp hv).1; simpa using this)
   fun u' v' h' tk hu' hv' z1 z2 z3 z4 z5 z6 kk=>?_
  have eu:u'=u:=by
   have:us[i]?=some u':=by simpa using hu'
   rw[hu] at this; exact(Option.some.inj this).symm
  have ev:v'=v:=by
   have:vs[i]?=some v':=by simpa using hv'
   rw[hv] at this; exact(Option.some.inj this).symm
  subst eu ev;have fr:H s.heap.objs.size=none:=I.hok.fresh (bw _)
  have I1:Inv X ae σ (upd H s.heap.objs.size (.tup [x,y])) { s with heap:=s.heap.push { cls:=.type "tuple",data:=.seq #[u',v'] },toks:=tk }:=
   I.laid (t':=tk) (fun b v z=>fB _ z) (bw _) ⟨(by show 2<=sizeLine; decide),[u',v'],.cons Zh (.cons rv' .nil),⟨_,cO _ rfl,rfl,_,rfl⟩⟩
  have lt:∀c∈[z,TI,TO,i1,i2],c<s.heap.objs.size:=fun c hc=>by
   simp only[bB,dM,or_false] at hc;rcases hc with rfl | rfl | rfl | rfl | rfl
   ·exact bH g1
   ·exact bH g2
   ·exact bH g3
   ·obtain⟨o,e,_⟩:=k1.obj g4; exact bH e
   ·obtain⟨o,e,_⟩:=k2.obj g5; exact bH e
  have f1:∀c∈[z,TI,TO,i1,i2],fD X ae (upd H s.heap.objs.size (.tup [x,y])) c:=fun c hc=>⟨by rw[aH (dJ (lt c hc))]; exact(hf c hc).1,(hf c hc).2⟩
  have I2:Inv X ae σ (upd H s.heap.objs.size (.tup [x,y])) { s with heap:=h',toks:=tk }:=I1.gR (t':=tk) (fun c o nc e=>by
   have m:∀d∈[z,TI,TO,i1,i2],c≠d:=fun d hd y=>nc (y▸hd);by_cases y:c=s.heap.objs.size
   ·subst y;rw[cO _ rfl] at e;cases e;exact z5
   ·rcases Heap.get?_push_cases e with w | w
    ·exact absurd w.1 y
    ·exact kk c o (m z (by simp)) (m TO (by simp)) (m i1 (by simp)) (m i2 (by simp)) w) f1
  have Ro:IsPair h' TI (.ref i1) (.ref i2):=kk _ _ n1 n3 n9 n10 g2;refine⟨_,rfl,wpAny_letOwnedTupleGo_zip z1 fun h2 zz sb=>⟨.ref s.heap.objs.size,_,I2.gR (fp:=[z,TI,TO,i1,i2]) (t':=tk) (fun c o nc e=>sb.extBut c o (fun y=>nc (by simp[y])) e) f1,rfl,⟨_,x,y,fr,rfl,rfl,fun xs' h=>by rw[k1.inj I h hx]; exact ex,fun ys' h=>by rw[k2.inj I h hy]; exact ey⟩,⟨zz,sb.extBut _ _ n1 Ro,⟨_,_,sb.extBut _ _ n2 z2⟩,?_,?_⟩,fun c hc=>(f1 c hc).1⟩⟩
  ·exact k1.keep z3.1 fun o e=>sb.extBut i1 o n4 e
  ·exact k2.keep z4.1 fun o e=>sb.extBut i2 o n5 e
 done:=by
  intro X hP hw hK hc i ae s σ H E I hf st hg;subst hP hw hK;obtain⟨g1,g2,⟨xo,yo,g3⟩,g4,g5⟩:=st;obtain⟨xs,ys,hx,hy,hl⟩:=hg;obtain⟨us,ru,pu⟩:=k1.inv I hx;obtain⟨vs,rv,pv⟩:=k2.inv I hy;have ha:∀c∈[z,TI,TO,i1,i2],a≠c:=fun c hc=>k1.ne I hx (hf c hc);have hb:∀c∈[z,TI,TO,i1,i2],b≠c:=fun c hc=>k2.ne I hy (hf c hc);have hh:X.A.in1.handled=none:=I.ok.hd hc;have Z:Ws z TI TO i1 i2 [i1,a] [i2,b]:=⟨n1,n2,n3,n4,n5,n6,n7,n8,by simp; exact⟨n4.symm,(ha z (by simp)).symm⟩,by simp; exact⟨n5.symm,(hb z (by simp)).symm⟩,by simp; exact⟨n6,(ha TO (by simp)).symm⟩,by simp; exact⟨n7,(hb TO (by simp)).symm⟩,by simp; exact⟨n8,(hb i1 (by simp)).symm⟩,by simp; exact⟨n8.symm,(ha i2 (by simp)).symm⟩⟩
  have l1:=ru.length;have l2:=rv.length;refine J4 Z (k1.dr hh (ha i1 (by simp)) us.toArray) (k2.dr hh (hb i2 (by simp)) vs.toArray) g1 g2 g3 (show _/\_ from⟨g4,pu⟩) (show _/\_ from⟨g5,pv⟩) (by simp; omega) fun h' tk kk=>⟨rfl,I.gR (fp:=[z,TI,TO,i1,i2]) (t':=tk) (fun c o nc e=>?_) hf⟩
  have m:∀d∈[z,TI,TO,i1,i2],c≠d:=fun d hd y=>nc (y▸hd);exact kk c o (m z (by simp)) (m TO (by simp)) (m i1 (by simp)) (m i2 (by simp)) e
 self:=fun _ _ _ _ _ st h=>Gg st.z h
section
variable{X:Cx}
end
abbrev two(elt t1 i1 t2 i2:Expr)(sc:Scope)(pos:Pos):Expr:=.ListComp elt [⟨t1,i1,[],0⟩,⟨t2,i2,[],0⟩] sc pos
section
variable{prog:AC}{w:World}{A:Around}{R:Result->AB->Prop}{s:AB}{elt t1 i1 t2 i2:Expr}{sc:Scope}{pos:Pos}{it acc:AA}{env:Env}
end
theorem bR{X:Cx}{K:Frag}{pos:Pos}{es:List Expr}{k:Nat}{t:R5}{n:Nat}(hK:X.K=K)(hc:X.calm=true)(h:YL X es t)
  (hn: ~~~((assignEach es X.env).length=n)) (hst: ~~~((assignEach es X.env).findIdx? (·.1)=none)):PG X (.Tuple es k pos) (Rn K n t):=by
 subst hK;exact ud hc h hn hst
theorem rN{X:Cx}{K:Frag}{tg l:Expr}{tl:TE}(hK:X.K=K)(hl:PE X l tl):PI X tg l (GQ K tl):=by
 subst hK;exact Xq hl
theorem kW{X:Cx}{K:Frag}{tg l:Expr}{tl:TE}(hK:X.K=K)(hl:PE X l tl):PI X tg l (p_ K tl):=by
 subst hK;exact cP hl
theorem JH{K:Frag}{js:List Nat}{J:It}{te:TE}{σ:St}{H:Hp}{Q:VK}{acc:Addr}{es:List PyData}(xv yv:Nat->V)(hz:es.length<=sizeLine)(hL:bD es=true)(hacc:H acc=none)
  (go:∀i H',i<es.length->aK H H'->J.go i H') (yl:∀i H' v dF,i<es.length->aK H H'->J.Er i H' v dF->∃p,H' p=none/\v=.ref p/\dF=upd H' p (.tup [xv i,yv i])) (st:∀H',aK H H'->J.stop es.length H')
  (val:∀(i:Nat) e H',es[i]?=some e->aK H H'->∀R:VK,(∀v dF,aK H' dF->At dF e v->R v dF)->te (some (xv i)::some (yv i)::bQ js σ) H' R)
  (fin:∀ys H',aK H H'->H' acc=some (.lst ys)->aa (hid acc H') es ys->Q (.ref acc) H') :
  ∃W:Nat->Nat->List V->Hp->Prop,(∃m,W 0 m [] (upd H acc (.lst [])))/\∀i m ys H2,W i m ys H2 ->
   (J.stop i H2/\Q (.ref acc) H2)\/(J.go i H2/\∀x H3,J.Er i H2 x H3->Rn K 2 (mR (dh 0) (mR (dh 1) GZ)) x (List.replicate 2 none++bQ js σ) H3 fun σ' H'=>(σ'.drop 2=bQ js σ/\σ'.length=(List.replicate 2 (none:Option V)++bQ js σ).length)/\tL σ' H' fun b dF=>
    if b=true then te σ' dF fun y H4=>H4 acc=some (.lst ys)/\ys.length<sizeLine/\∃m',m'<m/\W (i+1) m' (ys++[y]) (upd H4 acc (.lst (ys++[y]))) else ∃m',m'<m/\W (i+1) m' ys dF):=by
 refine⟨fun i m ys H2=>m=es.length-i/\i<=es.length/\aa (hid acc H2) (es.take i) ys/\aK H H2/\H2 acc=some (.lst ys),⟨_,rfl,gC _,aa.nil,aO hacc _,aA⟩,?_⟩;intro i m ys H2 yL; refine xP yL fun LR hi hA sm hy=>?_; clear yL; subst LR;by_cases hlt:i<es.length
 ·refine .inr ⟨go i H2 hlt sm,fun x H3 y=>?_⟩;refine mL (yl i H2 x H3 hlt sm y) fun p fp cL iQ=>?_; subst cL; subst iQ;refine⟨p,_,rfl,fK.of aA,rfl,(show(_=_/\_=_)/\tL _ _ _ from⟨⟨rfl,by simp⟩,?_⟩)⟩
  unfold tL;simp only[if_true];have e1:es[i]?=some es[i]:=cT hlt;have s3:aK H2 (upd H2 p (.tup [xv i,yv i])):=aO fp _;refine val i _ _ e1 (sm.trans s3) _ fun v H4 s4 a4=>⟨s4 _ _ (s3 _ _ hy),?_,es.length-(i+1),∅,rfl,hlt,?_,?_,aA⟩
  ·rw[hA.length,kI]; omega
  ·rw[v9,List.take_succ,e1];exact aa.append (hA.mono (aK.hid (s3.trans s4))) (aa.cons (At.Jy (s4 _ _ (s3 _ _ hy)) _ _ (Jo hL e1) a4) aa.nil)
  ·refine fun b o q=>?_;have nb:b≠acc:=cD q hacc;rw[aH nb];exact s4 _ _ (s3 _ _ (sm _ _ q))
 ·have e:i=es.length:=by omega
  subst e;rw[rJ] at hA;exact .inl ⟨st _ sm,fin _ _ sm hy hA⟩
section
variable{X:Cx}{ae:List (Addr×Obj)}{σ:St}{H:Hp}{s:AB}{A:Around}{E:AA->AB->Prop}{Q:AA->AB->Prop}{b:Bool}
end
section
variable{X:Cx}
end
section
variable{X:Cx}
def tNo:TS:=fun _ _ _=>False
theorem Gq{st:Stmt}:PS X st tNo:=.mk <| fun _ _ _ _ _ _ h=>h.elim
end
def aee:V->Option Str
 | .int i=>if i.natAbs.log2<1920 then some (Str.ofString (toString i)) else none
 | .str z=>some z
 | _=>none
def Ze(te:TE):TE:=fun σ H Q=>te σ H fun x H1=>∃z,aee x=some z/\z.length<=sizeLine/\Q (.str z) H1
abbrev TJ:=Str->St->Hp->(Str->Hp->Prop)->Prop
section
variable{X:Cx}
structure PJ(X:Cx)(es:List Expr)(t:TJ):Prop where
 mk ::
 go:∀(acc:Str)(ae:List (Addr×Obj))(s:AB)(σ:St)(H:Hp)(R:Str->Hp->Prop),Inv X ae σ H s->t acc σ H R ->
  Joins (model X.prog X.w) X.A X.xe (evalEach es X.env) acc (fun out s'=>∃H',Inv X ae σ H' s'/\R out H') s
def Zd:TJ:=fun acc _ H R=>R acc H
def Zc(te:TE)(t:TJ):TJ:=fun acc σ H R=>te σ H fun x H1=>∃y,x=.str y/\(acc++y).length<=sizeLine/\t (acc++y) σ H1 R
def Zb(t:TJ):TE:=fun σ H Q=>t Str.empty σ H fun out H'=>out.length<=sizeLine/\Q (.str out) H'
def adt:V->Option Int->Option Int->Hp->VK->Prop:=fun x lo hi H Q=>∃z,x=.str z/\z.length<=sizeLine/\Q (.str (Txt.slice z lo hi)) H
theorem Qg:YG X adt:=by
 symm;intro x v vl vu lo hi sl Q I rx hs pl pu h;obtain⟨z,rfl,hz,q⟩:=h;obtain⟨t,rfl⟩:=rx;have key:∀t' k,EP X ae σ Q (.str (Txt.slice z lo hi) t') { s with toks:=k }:=fun t' k=>⟨.str _,H,I.tok _,⟨t',rfl⟩,q⟩
 refine⟨"str",_,PySem.F.slot_str_getitem.lookup,typeIs_str _ _ _,?_⟩;cases pl with
 | none=>
  cases pu with
  | none=>exact Ky (l:=none) (u:=none) (st:=none) hs rfl (post_val_or_str ⟨iH (Txt.slice_le z _ _) hz,key⟩)
  | int j uj=>exact Ky (l:=none) (u:=some (j,uj)) (st:=none) hs rfl (post_val_or_str ⟨iH (Txt.slice_le z _ _) hz,key⟩)
 | int i ui=>
  cases pu with
  | none=>exact Ky (l:=some (i,ui)) (u:=none) (st:=none) hs rfl (post_val_or_str ⟨iH (Txt.slice_le z _ _) hz,key⟩)
  | int j uj=>exact Ky (l:=some (i,ui)) (u:=some (j,uj)) (st:=none) hs rfl (post_val_or_str ⟨iH (Txt.slice_le z _ _) hz,key⟩)
theorem wO:∀{zs:List Str}{us:List AA},Vals (zs.map V.str) us->StrsAre us zs
 | [],_,.nil=>.nil
 | z::zs,_,.cons ⟨t,e⟩ r=>by subst e; exact .cons z t (wO r)
theorem Tf(sep:Str)(zs:List Str):Txt.join sep zs=Str.join sep zs:=by
 match zs with
 | []=>exact(StrLaws.glued_eq_join sep [])
 | [x]=>rfl
 | x::y::r=>exact StrLaws.glued_eq_join sep (x::y::r)
def rJoin:V->List V->Hp->VK->Prop:=fun x xs H Q=>∃(sep:Str)(p:Addr)(zs:List Str),x=.str sep/\xs=[.ref p]/\H p=some (.lst (zs.map V.str))/\(zs.map (·.length)).sum+zs.length*sep.length<=16777216/\Q (.str (Str.join sep zs)) H
theorem KR:MtR X "str.join" rJoin:=by
 intro ae s σ H x xs v us Q I rx rs h;obtain⟨sep,p,zs,rfl,rfl,hp,hz,q⟩:=h;obtain⟨t,rfl⟩:=rx;obtain⟨u,rfl,ru⟩:=rs.one;cases ru;obtain⟨_,its,n,rv,e1⟩:=(show b_ X.prog X.w H s.heap p (.lst (zs.map V.str)) from I.hok p _ hp);refine join_list (D:=p) (items:=its.toArray) ⟨_,e1,rfl,n,rfl⟩ (by simpa using wO rv) hz fun t' k=>⟨.str _,H,I.tok _,⟨t',rfl⟩,?_⟩
 rw[Tf];exact q
def Its(z:Str):It:=⟨fun i _=>i<z.length,fun i H x H'=>H'=H/\∃c,z.cps[i]?=some c/\x=.str ⟨#[c]⟩,fun i _=>z.length<=i⟩
theorem Pn{P:AC}{w:World}{K:Frag}{tg:Expr}(z:Str)(t:Tok)(it:Addr):Turn P w K tg (Its z) [it] it (fun i h=>h.IsStrIter it "str_ascii_iterator" z t i) where
 mem:=by simp
 obj:=fun i h st b hb=>by
  have e:b=it:=by simpa using hb
  subst e;obtain⟨o,e,c,d⟩:=st;exact⟨o,e,fun v z=>by rw[d] at z; cases z⟩
 keep:=fun i h h' st k=>by
  obtain⟨o,e,c,d⟩:=st;exact⟨o,k it (by simp) o e,c,d⟩
 item:=by
  intro X hP hw hK hc i ae s σ H E I hf st hg;subst hP hw hK;have hx:z.cps[i]?=some (z.cps[i]'hg):=Array.getElem?_eq_getElem hg;refine nZ (hf it (by simp)) fun f0 f1 f2 f3 f4 f5=>?_
  refine wpAny_pyNext_ascii_item st hx fun h' st' sb=>?_;have I1:Inv X ae σ H { s with heap:=h',toks:=s.toks+1 }:=I.turned (fun b o hb e=>(sb.2 b hb).trans e) f0 f1 f3 f4 f5
  obtain⟨o,e,c,d⟩:=id st';exact⟨_,rfl,Bf (s:={ s with heap:=h',toks:=s.toks+1 }) e c d ⋯ ⟨.str _,H,I1,⟨_,rfl⟩,⟨rfl,_,hx,rfl⟩,st',fun b hb=>(hf b hb).1⟩⟩
 done:=by
  intro X hP hw hK hc i ae s σ H E I hf st hg;subst hP hw hK;obtain⟨f0,f1,f2,f3,f4,f5⟩:=hf it (by simp)
  exact wpAny_pyNext_ascii_end (I.ok.hd hc) st (Array.getElem?_eq_none hg) fun h' eb=>⟨rfl,I.turned (t':=s.toks) (fun b o hb e=>eb b o hb e) f0 f1 f3 f4 f5⟩
 self:=fun _ _ _ _ _ st h=>wpAny_pyIter_striter_ascii st h
def aa6(tl:TE):TI:=fun σ H R=>tl σ H fun x H1=>∃z,x=.str z/\z.cps.all (· < 128)=true/\R (Its z) H1
theorem Xr{tg l:Expr}{tl:TE}(hl:PE X l tl):PI X tg l (aa6 tl):=by
 symm;intro R I h;refine cz (hl ae s σ H _ I h) fun v s1 qx=>?_;obtain⟨x,H1,I1,r1,q1⟩:=qx;obtain⟨z,e,ha,q⟩:=q1;subst e;obtain⟨t,rfl⟩:=r1;refine wpAny_pyIter_ascii ha ?_;refine⟨s1.heap.objs.size,[s1.heap.objs.size],_,_,H1,rfl,I1.kept (t':=s1.toks) fun b o e=>fB _ e,Pn z t _,⟨_,cO _ rfl,rfl,rfl⟩,fun b hb=>?_,q⟩;have e:b=s1.heap.objs.size:=by simpa using hb
 subst e;exact I1.uh (bw _) (I1.hok.fresh (bw _))
def Mx(K:Frag)(ta:TE):TT:=fun σ H Q=>ta σ H fun x H'=>∃k,ae0 K x H' k/\Q k H'
end
def tx(l:List Nat):Str:=⟨l.toArray⟩
theorem wH(l:List Nat):(tx l).cps.toList=l:=by simp[tx]
theorem fj(l:List Nat):(tx l).length=l.length:=by show l.toArray.size=_; simp
theorem Z_{z:Str}{l:List Nat}(h:z.cps.toList=l):z=tx l:=by subst h; cases z; simp[tx]
theorem wI(a b:List Nat):tx a++tx b=tx (a++b):=Z_ (by rw[PySem.W.KT.app_list,wH,wH])
theorem WY{a b:List Nat}(h:tx a=tx b):a=b:=by have:=pI (fun z:Str=>z.cps.toList) h; simpa[wH] using this
theorem WX(c:Nat):(⟨#[c]⟩:Str)=tx [c]:=rfl
def jn(sep:List Nat):List (List Nat)->List Nat
 | []=>[]
 | [x]=>x
 | x::y::r=>x++sep++jn sep (y::r)
theorem La(sep:List Nat):∀ls:List (List Nat),Str.join (tx sep) (ls.map tx)=tx (jn sep ls)
 | []=>rfl
 | [x]=>rfl
 | x::y::r=>by
  show tx x++tx sep++Str.join (tx sep) ((y::r).map tx)=_;rw[La sep (y::r),wI,wI];rfl
theorem Yu{js:List Nat}{l:List Nat}{f:Nat->Bool}{tl te:TE}{σ:St}{H:Hp}{Q:VK}(hl:∀R:VK,R (.str (tx l)) H->tl σ H R)(ha:∀c∈l,c<128)(hz:l.length<=sizeLine)
  (step:∀c H',aK H H'->∀R:VK,(∀dF,aK H' dF->R (.bl (f c)) dF)->te (some (.str (tx [c]))::bQ js σ) H' R)
  (fin:∀acc H',aK H H'->H' acc=some (.lst ((l.map f).map V.bl))->Q (.ref acc) H'):iB js (aa6 tl) te σ H Q:=by
 refine hl _ ⟨tx l,rfl,?_,fun acc hacc=>?_⟩
 ·show l.toArray.all (· < 128)=true;simpa using ha
 have len:(tx l).length=l.length:=fj l;refine⟨fun i m ys H2=>m=l.length-i/\i<=l.length/\ys=((l.take i).map f).map V.bl/\aK H H2/\H2 acc=some (.lst ys),⟨_,rfl,gC _,rfl,aO hacc _,aA⟩,?_⟩;intro i m ys H2 yL; refine xP yL fun LR hi cL sm hy=>?_; clear yL; subst LR; subst cL;by_cases hlt:i<l.length
 ·refine .inr ⟨show i<(tx l).length by omega,fun x H3 y=>?_⟩
  obtain⟨e,c,hc,ex⟩:=y;subst e ex;have hc':l[i]?=some c:=by simpa[tx] using hc
  refine step c _ sm _ fun H4 s4=>⟨s4 _ _ hy,?_,l.length-(i+1),∅,rfl,hlt,?_,?_,aA⟩
  ·rw[bN,bN,kI]; omega
  ·rw[List.take_succ,hc']; simp
  ·refine fun b o q=>?_;have nb:b≠acc:=cD q hacc;rw[aH nb];exact s4 _ _ (sm _ _ q)
 ·have e:i=l.length:=by omega
  subst e;refine .inl ⟨show(tx l).length<=l.length by omega,fin _ _ sm ?_⟩
  rw[hy,rJ]
abbrev Q0(h:Heap)(t:Addr):Heap:=h.push { cls:=.type "list_iterator",data:=.fields #[.ref t,.int 0 0] }
abbrev S9(h:Heap)(t1 t2:Addr):Heap:=Q0 (Q0 h t1) t2
abbrev zB3(h:Heap)(t1 t2:Addr):Heap:=(S9 h t1 t2).push { cls:=.type "tuple",data:=.seq #[.ref h.objs.size,.ref (Q0 h t1).objs.size] }
abbrev zB4(h:Heap)(t1 t2:Addr):Heap:=(zB3 h t1 t2).push { cls:=.type "tuple",data:=.seq #[.none,.none] }
abbrev WR(h:Heap)(t1 t2:Addr):Heap:=(zB4 h t1 t2).push { cls:=.type "zip",data:=.fields #[.none,.bool false,.bool false,.ref (S9 h t1 t2).objs.size,.ref (zB3 h t1 t2).objs.size] }
theorem Uv(t1 t2:Addr)(xs ys:Array AA):Meets (Builtin.«zip.__new__» ⟨[.type "zip",.ref t1,.ref t2],[]⟩) (fun _ R s=>s.heap.IsList t1 xs/\s.heap.IsList t2 ys/\R (.ok (.ret (.ref (zB4 s.heap t1 t2).objs.size))) { s with heap:=WR s.heap t1 t2 }):=
 .of_wp fun prog w A R s z=>by
  obtain⟨hp,g,d,tk,os⟩:=s;obtain⟨hx,hy,z⟩:=z;have sub:=sub_zip;have hX:Heap.IsList (Shared.heap ⟨hp,g,d,tk,os⟩) t1 xs:=hx;have hY:Heap.IsList (Shared.heap ⟨Q0 hp t1,g,d,tk,os⟩) t2 ys:=hy.push _
  wp_walk using zf hX,zf hY
  exact⟨_,rfl,z⟩
theorem Bo{prog:AC}{w:World}{A:Around}{E:AA->AB->Prop}{s:AB}{t1 t2:Addr}{xs ys:Array AA}{Q:AA->AB->Prop}(hx:s.heap.IsList t1 xs)(hy:s.heap.IsList t2 ys)
  (q:∀h',IsZip h' (s.heap.objs.size+4) (s.heap.objs.size+2) (s.heap.objs.size+3) .none->IsPair h' (s.heap.objs.size+2) (.ref s.heap.objs.size) (.ref (s.heap.objs.size+1))->IsPair h' (s.heap.objs.size+3) .none .none ->
   h'.IsListIter s.heap.objs.size t1 0->h'.IsListIter (s.heap.objs.size+1) t2 0->(∀c o,s.heap.get? c=some o->h'.get? c=some o)->Q (.ref (s.heap.objs.size+4)) { s with heap:=h' }) :
  wpAny (model prog w) A (call (.type "zip") [.ref t1,.ref t2]) Q E s:=by
 have n1:(Q0 s.heap t1).objs.size=s.heap.objs.size+1:=fQ ..;have n2:(S9 s.heap t1 t2).objs.size=s.heap.objs.size+2:=by rw[fQ,n1]
 have n3:(zB3 s.heap t1 t2).objs.size=s.heap.objs.size+3:=by rw[fQ,n2]
 have n4:(zB4 s.heap t1 t2).objs.size=s.heap.objs.size+4:=by rw[fQ,n3]
 have up:∀c o,s.heap.get? c=some o->(WR s.heap t1 t2).get? c=some o:=fun c o e=>fB _ (fB _ (fB _ (fB _ (fB _ e))));have v5:(WR s.heap t1 t2).get? (zB4 s.heap t1 t2).objs.size=some _:=cO _ rfl;have v4:(WR s.heap t1 t2).get? (zB3 s.heap t1 t2).objs.size=some _:=fB _ (cO _ rfl);have v3:(WR s.heap t1 t2).get? (S9 s.heap t1 t2).objs.size=some _:=fB _ (fB _ (cO _ rfl));have v2:(WR s.heap t1 t2).get? (Q0 s.heap t1).objs.size=some _:=fB _ (fB _ (fB _ (cO _ rfl)));have v1:(WR s.heap t1 t2).get? s.heap.objs.size=some _:=fB _ (fB _ (fB _ (fB _ (cO _ rfl))));refine callType_new F.called_zip ⋯ (F.typeCall_zip_2 _ _) (F.newCall_zip_2 _ _) (fun x=>F.args_object_init_3 x _ _) F.entry_zip_new (Uv t1 t2 xs ys) ⟨hx,hy,?_⟩
 show _/\_;rw[n2,n3,n4] at v5;rw[n1,n2] at v3;rw[n3] at v4;rw[n1] at v2;rw[n4];exact⟨⟨_,v5,rfl⟩,q _ v5 v3 v4 ⟨_,v1,rfl,rfl⟩ ⟨_,v2,rfl,rfl⟩ up⟩
theorem Xa{X:Cx}{ae:List (Addr×Obj)}{σ:St}{H:Hp}{s:AB}{a b:Addr}{xs:List V}(I:Inv X ae σ H s)(hq:bT X.K H a xs)(hf:fD X ae H b):a≠b:=fun z=>by
 rcases hq with h | ⟨o,its,n,hk,_⟩
 ·rcases h with h | ⟨o,h⟩ <;> (rw[z,hf.1] at h; cases h)
 ·have e:X.base.get? a=some o:=I.ok.mod.V_ a o hk;rcases hf.2.2.2.1 with y | y
  ·exact I.ok.Nr a o e (z▸y)
  ·have l:=bH e;have m:=I.ok.R0;rw[z] at l;exact absurd (pL l (iH m y)) (vf _)
def kL:Knd:=⟨fun K=>bT K,fun h i a n=>h.IsListIter i a n,fun h a us=>h.IsList a us,fun⟨o,g,_,d⟩=>⟨o,g,fun v q=>by rw[d] at q; cases q⟩,fun g k=>g.at k,fun I h=>(I.list h).elim fun us p=>⟨us,p.1,p.2.1.isList⟩,fun I h h'=>I.ym h h',fun I h f=>Xa I h f,fun hh i a n us=>Draws.list hh i a n us⟩
abbrev abM:=abN kL kL
section
variable{X:Cx}
def Wb(K:Frag)(ta:TA):TI:=fun σ H R=>ta σ H fun vs H1=>∃a b,vs=[.ref a,.ref b]/\(∃xs,bT K H1 a xs)/\(∃ys,bT K H1 b ys)/\R (abM K a b) H1
theorem Ua{K:Frag}{e e':Expr}{elts:List Expr}{x1}{tp p pos:Pos}{ta:TA}(hK:X.K=K)(hm:X.mg "zip" = none)(ha:PA X [e,e'] ta)(hg: ~~~(Gl X "zip"))(h1: ~~~(bO e=true))(h2: ~~~(bO e'=true)) :
  PI X (.Tuple elts x1 tp) (.Call (.Name "zip" p) [e,e'] [] pos) (Wb K ta):=by
 subst hK;symm;intro R I h;refine vm (iw I hg hm JQ ?_ ⋯ ⋯)
 refine PyProof.Rows.callWith_type1 (cz (ha pos ae s σ H _ I h) fun us s1 ⟨vs,H1,I1,r1,q1⟩=>?_) (bW h1) (b8 (es:=[e']) (by simp[h2]))
 obtain⟨a,b,rfl,⟨xs,hx⟩,⟨ys,hy⟩,q⟩:=q1;obtain⟨u,v,rfl,ru,rv⟩:=r1.two;cases ru;cases rv;obtain⟨us,_,pu,_⟩:=I1.list hx;obtain⟨ws,_,pw,_⟩:=I1.list hy;refine Bo pu.isList pw.isList fun h' hz hp ho h1 h2 kk=>?_;have I2:Inv X ae σ H1 { s1 with heap:=h' }:=I1.kept (t':=s1.toks) kk
 have fr:∀n,H1 (s1.heap.objs.size+n)=none:=fun n=>I1.hok.fresh (Ar _ _);have fk:∀n,fD X ae H1 (s1.heap.objs.size+n):=fun n=>I1.uh (Ar _ _) (fr n);have ne:∀i j:Nat,i≠j->s1.heap.objs.size+i≠s1.heap.objs.size+j:=fun i j n e=>n (Nat.add_left_cancel e);refine Gg hz ⟨s1.heap.objs.size+4,_,_,abM X.K a b,H1,rfl,I2,Mr kL kL a b (s1.heap.objs.size+4) (s1.heap.objs.size+2) (s1.heap.objs.size+3) s1.heap.objs.size (s1.heap.objs.size+1) (ne _ _ ⋯) (ne _ _ ⋯) (ne _ _ ⋯) (ne 0 _ ⋯) (ne _ _ ⋯) (ne _ 0 ⋯) (ne _ _ ⋯) (ne 0 _ ⋯) (ne _ 0 ⋯) (ne _ _ ⋯),⟨hz,hp,⟨_,_,ho⟩,h1,h2⟩,fun c hc=>?_,q⟩
 simp only[bB,dM,or_false] at hc;rcases hc with rfl | rfl | rfl | rfl | rfl
 ·exact fk 4
 ·exact fk 2
 ·exact fk 3
 ·exact fk 0
 ·exact fk 1
end
theorem N_{K:Frag}{js:List Nat}{a b:Addr}{xs ys:List V}{es:List PyData}{ta:TA}{te:TE}{σ:St}{H:Hp}{Q:VK}(hl:∀R:List V->Hp->Prop,R [.ref a,.ref b] H->ta σ H R)(ha:H a=some (.lst xs))(hb:H b=some (.lst ys))(n1:xs.length=es.length)(n2:ys.length=es.length)(hz:es.length<=sizeLine)(hL:bD es=true)
  (val:∀(i:Nat) x y e H',xs[i]?=some x->ys[i]?=some y->es[i]?=some e->aK H H'->∀R:VK,(∀v dF,aK H' dF->At dF e v->R v dF)->te (some x::some y::bQ js σ) H' R)
  (fin:∀acc zs H',aK H H'->H acc=none->H' acc=some (.lst zs)->aa (hid acc H') es zs->Q (.ref acc) H'):ik 2 js (Wb K ta) (Rn K 2 (mR (dh 0) (mR (dh 1) GZ))) tL te σ H Q:=by
 refine hl _ ⟨a,b,rfl,⟨xs,bT.of ha⟩,⟨ys,bT.of hb⟩,fun acc hacc=>?_⟩;have gx:∀i,i<es.length->xs[i]?=some (xs.getD i .non):=fun i hi=>by rw[ig,cT ∅]; rfl
 have gy:∀i,i<es.length->ys[i]?=some (ys.getD i .non):=fun i hi=>by rw[ig,cT ∅]; rfl
 refine JH (es:=es) (fun i=>xs.getD i .non) (fun i=>ys.getD i .non) hz hL hacc (fun i H' hi s=>⟨xs,ys,_,_,bT.of (s _ _ ha),bT.of (s _ _ hb),gx i hi,gy i hi⟩) (fun i H' v dF hi s y=>?_) (fun H' s=>⟨xs,ys,bT.of (s _ _ ha),bT.of (s _ _ hb),.inl n1.symm⟩) (fun i e H' he s R hR=>?_) fun zs H' s h1 h2=>fin acc zs H' s hacc h1 h2
 ·obtain⟨p,x,y,fp,e1,e2,h1,h2⟩:=y;have q1:=h1 xs (bT.of (s _ _ ha));have q2:=h2 ys (bT.of (s _ _ hb));rw[gx i hi] at q1;rw[gy i hi] at q2;cases q1;cases q2;exact⟨p,fp,e1,e2⟩
 ·have hi:i<es.length:=by
   by_cases z:i<es.length
   ·exact z
   ·rw[List.getElem?_eq_none ∅] at he; cases he
  exact val i _ _ e H' (gx i hi) (gy i hi) he s R hR
end _L
namespace _L
open PySem
structure Pl(n:Nat)(d:PyData):Prop where
 hd:d.hasDict=false
 cl:d.canLay0=true
 dp:d.depth<=n
end _L
namespace _L
open PySem PySem.Spec PyProof.Rows
def Vy(h:Heap)(e:Addr)(cls:AA)(T:Addr):Prop:=∃oe vs,h.get? e=some oe/\(oe.cls=cls/\oe.dict=none)/\oe.data=.fields vs/\vs[1]?=some (.ref T)/\vs[2]?=some .none
def Vt(h:Heap)(T:Addr):Prop:=∃oT ts,h.get? T=some oT/\oT.data=.fields ts/\ts[3]?=some .none
structure Wv(fs:List Addr)(h h':Heap)(e T:Addr)(cls:AA):Prop where
 keep:∀b o,b≠e->b∉fs->h.get? b=some o->h'.get? b=some o
 slot:∀b o,b≠e->h.get? b=some o->∃sl,h'.get? b=some { o with slots:=sl }
 fresh:h.objs.size<=T
 ex:Vy h' e cls T
 tb:Vt h' T
section
variable{M:Model}{A:Around}{E:AA->AB->Prop}{s:AB}
theorem yz(o:Obj)(f:Array AA->Array AA):(Obj.mapFields f o).dict=o.dict:=by
 obtain⟨c,d,dt,sl⟩:=o;cases dt <;> rfl
theorem entryE{base:Heap}{env:Env}{outer:List Env}{L e:Addr}{oe:Obj}{vs:Array AA}{head:AA}{nx:Bool}{Q:Unit->AB->Prop}
  (fr:A.frames=some (env::outer)) (ff:s.heap.FunFrames base (env::outer)) (fL:env.frame=some L) (he:s.heap.get? e=some oe) (hdn:oe.dict=none) (hd:oe.data=.fields vs) (hz:1<vs.size) (hc:vs[2]?=some .none)
  (q:∀h' T,Wv (frs (env::outer)) s.heap h' e T oe.cls->Q () { s with heap:=h' }) :
  wpAny M A (do
   let a <- frameOf env
   let pl <- entryPlaceOf L nx
   let b <- EntryCells.newEntry head a .none (rawInt L) .none pl
   setField (.ref e) 1 b) (fun _ s'=>wpAny M A (setFlight (.ref e) none) Q E s') E s:=by
 have ne:e∉frs (env::outer):=fun hm=>by
  obtain⟨_,o,ho,hf⟩:=ff.mem hm;rw[he] at ho;cases ho;exact hf vs hd
 refine aN (wpAny_frameOf_fun fr ff fL fun h1 so=>aN (wpAny_entryPlaceOf fun pl hpl=>?_));obtain⟨sz,sk,ss⟩:=so;unfold EntryCells.newEntry newFields;refine aN (xG ?_ (hpl.sizeOk5 _ _ _ _ _));have e1:h1.get? e=some oe:=(sk e ne).trans he;have pe:=fB (h:=h1) { cls:=.type "traceback",data:=.fields (([head,.ref L,.none,rawInt L,.none]:List AA)++(if pl.isEmpty then List.replicate 6 .none else pl)).toArray } e1
 have nT:h1.objs.size≠e:=xu (bH e1);have pT:=cO h1 (o:={ cls:=.type "traceback",data:=.fields (([head,.ref L,.none,rawInt L,.none]:List AA)++(if pl.isEmpty then List.replicate 6 .none else pl)).toArray }) rfl
 have pk:∀b o,h1.get? b=some o->(h1.push { cls:=.type "traceback",data:=.fields (([head,.ref L,.none,rawInt L,.none]:List AA)++(if pl.isEmpty then List.replicate 6 .none else pl)).toArray }).get? b=some o:=fun b o z=>fB _ z
 refine wpAny_setField pe hd hz ?_;generalize h1.push { cls:=.type "traceback",data:=.fields (([head,.ref L,.none,rawInt L,.none]:List AA)++(if pl.isEmpty then List.replicate 6 .none else pl)).toArray }=h2 at pe pT pk ⊢
 have dx:=Obj.data_mapFields hd (·.setIfInBounds 1 (Value.ref h1.objs.size));have pe3:=M4 (Obj.mapFields (·.setIfInBounds 1 (Value.ref h1.objs.size))) pe (Obj.isFreed_of_fields dx);have pT3:=(zg h2 (Obj.mapFields (·.setIfInBounds 1 (Value.ref h1.objs.size))) (Ne.symm nT)).trans pT;have pk3:∀b o,b≠e->h1.get? b=some o->(h2.update e (Obj.mapFields (·.setIfInBounds 1 (Value.ref h1.objs.size)))).get? b=some o:=fun b o z y=>(zg h2 _ (Ne.symm z)).trans (pk b o y);have ce:=Obj.cls_mapFields oe (·.setIfInBounds 1 (Value.ref h1.objs.size));generalize h2.update e (Obj.mapFields (·.setIfInBounds 1 (Value.ref h1.objs.size)))=h3 at pe3 pT3 pk3 ⊢;unfold setFlight;have v1:(vs.setIfInBounds 1 (Value.ref h1.objs.size))[1]?=some (.ref h1.objs.size):=by simp[hz]
 refine aN (fP pe3 dx v1 ?_);rw[bh (show(Value.ref h1.objs.size != Value.none)=true by simp)]
 refine wpAny_setField pT3 rfl (by simp only[fC,cC,fU,mX] <;> omega) ?_
 have d4:=Obj.data_mapFields (o:={ cls:=.type "traceback",data:=.fields (([head,.ref L,.none,rawInt L,.none]:List AA)++(if pl.isEmpty then List.replicate 6 .none else pl)).toArray }) rfl (·.setIfInBounds 3 ((none:Option Addr).elim Value.none fun f=>rawInt f))
 have pT4:=M4 (Obj.mapFields (·.setIfInBounds 3 ((none:Option Addr).elim Value.none fun f=>rawInt f))) pT3 (Obj.isFreed_of_fields d4);have o4:∀b,b≠h1.objs.size->(h3.update h1.objs.size (Obj.mapFields (·.setIfInBounds 3 ((none:Option Addr).elim Value.none fun f=>rawInt f)))).get? b=h3.get? b:=fun b z=>zg h3 _ (Ne.symm z);refine q _ h1.objs.size ⟨fun b o z y x=>?_,fun b o z x=>?_,Nat.le_of_eq sz.symm,⟨_,_,(o4 e (Ne.symm nT)).trans pe3,⟨ce,(yz oe _).trans hdn⟩,dx,v1,by rw[Array.getElem?_setIfInBounds]; simpa using hc⟩,⟨_,_,pT4,d4,?_⟩⟩
 ·have x1:h1.get? b=some o:=(sk b y).trans x;exact(o4 b (dJ (bH x1))).trans (pk3 b o z x1)
 ·obtain⟨sl,x1⟩:=ss b o x;exact⟨sl,(o4 b (dJ (bH x1))).trans (pk3 b _ z x1)⟩
 ·first | (simp; done) | (rcases hpl with rfl | ⟨_,_,_,_,_,_,_,rfl⟩ <;> simp)
theorem UJ{base:Heap}{env:Env}{outer:List Env}{L e:Addr}{oe:Obj}{vs:Array AA}{Q:Unit->AB->Prop}
  (fr:A.frames=some (env::outer)) (ff:s.heap.FunFrames base (env::outer)) (fL:env.frame=some L) (he:s.heap.get? e=some oe) (hdn:oe.dict=none) (hd:oe.data=.fields vs) (h1:vs[1]?=some .none) (h2:vs[2]?=some .none)
  (q:∀h' T,Wv (frs (env::outer)) s.heap h' e T oe.cls->Q () { s with heap:=h' }):wpAny M A (leaving env (.ref e)) Q E s:=by
 unfold leaving noteFrame;simp only[fL];refine aN (aN (fP he hd h1 ?_));rw[aX ⋯]
 exact entryE fr ff fL he hdn hd (Array.getElem?_eq_some_iff.mp h1).1 h2 q
structure ae_(fs:List Addr)(h h':Heap)(e T0 T:Addr)(cls:AA):Prop where
 keep:∀b o,b≠e->b≠T0->b∉fs->h.get? b=some o->h'.get? b=some o
 slot:∀b o,b≠e->b≠T0->h.get? b=some o->∃sl,h'.get? b=some { o with slots:=sl }
 old:∃o,h'.get? T0=some o
 fresh:h.objs.size<=T
 ex:Vy h' e cls T
 tb:Vt h' T
end
section
variable{P:AC}{w:World}{H H':Hp}{h h':Heap}{a:Addr}{o:HO}
theorem b_.there(x:b_ P w H h a o):∃u,h.get? a=some u:=by
 cases o with
 | lst xs=>obtain⟨_,_,_,_,e⟩:=x; exact⟨_,e⟩
 | tup xs=>obtain⟨_,_,_,ob,e,_⟩:=x; exact⟨_,e⟩
 | dK kvs=>obtain⟨_,_,_,_,o,_,_,e,_⟩:=x; exact⟨_,e⟩
 | dT kvs=>obtain⟨_,_,_,_,o,_,_,e,_⟩:=x; exact⟨_,e⟩
 | set S n=>obtain⟨o,_,_,_,e,_⟩:=x; exact⟨_,e⟩
 | ins C dx fs=>obtain⟨_,_,_,e,_⟩:=x; exact⟨_,e⟩
 | own y=>exact x
 | xd fs=>obtain⟨_,⟨_,_,_,e,_⟩,_⟩:=x; exact⟨_,e⟩
 | Zi lo hi=>obtain⟨_,_,_,e⟩:=x; exact⟨_,e⟩
 | ug ob u=>obtain⟨e,_⟩:=x; exact⟨_,e⟩
 | VF ps=>exact⟨_,(show h.get? a=some _ from x)⟩
 | met f y=>exact⟨_,(show h.get? a=some _ from x)⟩
 | ext φ=>obtain⟨_,e,_⟩:=x; exact e
theorem jK.none(x:jK P w H h)(e:h.get? a=none):H a=none:=by
 cases q:H a with
 | none=>rfl
 | some u=>
  obtain⟨v,z⟩:=(x a u q).there;rw[e] at z; cases z
def ExO(e:Addr)(cls:AA)(T:Addr):HO:=.ext fun h=>Vy h e cls T
def TbO(T:Addr):HO:=.ext fun h=>Vt h T
theorem aaO{e T:Addr}{cls:AA}(x:Vy h e cls T):b_ P w H h e (ExO e cls T):=by
 refine⟨x,?_,?_⟩
 ·obtain⟨oe,vs,e1,_⟩:=x; exact⟨_,e1⟩
 ·rintro h1 h2 ⟨oe,vs,e1,r⟩ k;exact⟨oe,vs,k _ e1,r⟩
theorem aaN{T:Addr}(x:Vt h T):b_ P w H h T (TbO T):=by
 refine⟨x,?_,?_⟩
 ·obtain⟨oe,vs,e1,_⟩:=x; exact⟨_,e1⟩
 ·rintro h1 h2 ⟨oe,vs,e1,r⟩ k;exact⟨oe,vs,k _ e1,r⟩
theorem jK.ext(x:jK P w H h)(S:Addr->Prop)(k:∀b u v,H b=some u->¬S b->h.get? b=some v->h'.get? b=some v)(hs:∀b,S b->H b=Option.none\/∃φ,H b=some (.ext φ))
  (o1:∀b,¬S b->H' b=H b) (o2:∀b u,S b->H' b=some u->b_ P w H' h' b u):jK P w H' h':=fun b u e=>by
 by_cases z:S b
 ·exact o2 b u z e
 ·rw[o1 b z] at e;refine(x b u e).stay (fun c v q y=>?_) (fun c q=>?_) (fun c xs q=>?_)
  ·rcases q with q | q
   ·subst q; exact k c u v e z y
   ·exact k c _ v q (fun y'=>(hs c y').elim (fun n=>by rw[n] at q; cases q) fun⟨φ,n⟩=>by rw[n] at q; cases q) y
  ·rw[o1 c fun y'=>(hs c y').elim (fun n=>by rw[n] at q; cases q) fun⟨φ,n⟩=>by rw[n] at q; cases q]; exact q
  ·rw[o1 c fun y'=>(hs c y').elim (fun n=>by rw[n] at q; cases q) fun⟨φ,n⟩=>by rw[n] at q; cases q]; exact q
end
def wy(P:AC)(w:World):Lx:=fun outer H s E e s'=>∃(a T:Addr)(cls:AA)(H':Hp),e=.ref a/\s'.os=s.os/\AllBare s'.gens/\Un (frs outer) [] H H' s.heap s'.heap/\jK P w H' s'.heap /\
 H' a=some (ExO a cls T)/\H' T=some (TbO T)/\T≠a/\(s.heap.get? a=none/\s.heap.get? T=none)/\E cls none H'
section
variable{P:AC}{w:World}{K:Frag}{mg:Str->Option AA}{base:Heap}{N:List Str}{qual:Str}{scope:Scope}{f:Addr}{cd:AA}{A:Around}{outer:List Env}{s0:AB}{H0:Hp}{E:XK}
theorem Iz{ae:List (Addr×Obj)}{σ:St}{H:Hp}{s:AB}{h2:Heap}{e C:Addr}{us:List AA}(I:Inv (k_ (wy P w) P w K mg base N qual scope f cd A outer s0 H0 E) ae σ H s)
  (m:Heap.MadeExcOf s.heap h2 e (.ref C) us) (Ri:jK P w H0 s0.heap) (q:∀H',aK H H'->E (.ref C) none H'):(k_ (wy P w) P w K mg base N qual scope f cd A outer s0 H0 E).xe (.ref e) { s with heap:=h2 }:=by
 obtain⟨t,he,_,_⟩:=m.there;have ff:h2.FunFrames base (envOfC qual scope s0.heap.objs.size f cd::outer):=(I.stack:s.heap.FunFrames base (envOfC qual scope s0.heap.objs.size f cd::outer)).of_keeps fun b o ho _=>⟨o,m.keeps b o ho,rfl⟩;have fr:(A.deeper (envOfC qual scope s0.heap.objs.size f cd)).frames=some (envOfC qual scope s0.heap.objs.size f cd::outer):=I.ok.frames;refine UJ (s:={ s with heap:=h2 }) fr ff rfl he rfl rfl rfl rfl fun h3 T l=>?_
 have ne:H e=none:=I.hok.none m.new
 have nT:H T=none:=I.hok.none (by
  cases z:s.heap.get? T with
  | none=>rfl
  | some o=>exact absurd (bH (m.keeps _ _ z)) (Nat.not_lt.mpr l.fresh))
 have Te:T≠e:=fun z=>by
  obtain⟨oe,vs,e1,e2,e3,e4⟩:=l.ex;obtain⟨oT,ts,t1,t2,t3⟩:=l.tb;have:=bH he;have:=l.fresh;have:e<h2.objs.size:=bH he;subst z;exact absurd this (Nat.not_lt.mpr l.fresh)
 have iL:∀b o,s0.heap.get? b=some o->b≠s0.heap.objs.size:=fun b o z=>dJ (bH z);have ib:Un (frs outer) [] H0 H s0.heap s.heap:=I.base;have u1:∀b,b≠T->b≠e->upd (upd H e (ExO e (.ref C) T)) T (TbO T) b=H b:=fun b y z=>by rw[aH y,aH z]
 have nb:∀b o,s.heap.get? b=some o->b≠e:=fun b o z y=>by rw[y,m.new] at z; cases z
 have nbT:∀b o,s.heap.get? b=some o->b≠T:=fun b o z y=>by
  have a1:=bH (m.keeps b o z);have a2:h2.objs.size<=T:=l.fresh;subst y;exact Nat.not_lt.mpr a2 a1
 have nf:∀b,b∉frs outer->b≠s0.heap.objs.size->b∉frs (envOfC qual scope s0.heap.objs.size f cd::outer):=fun b y z hm=>by
  rcases bB.mp (show b∈s0.heap.objs.size::frs outer from hm) with x | x
  ·exact z x
  ·exact y x
 have hu:∀b u,H b=some u->b≠e/\b≠T:=fun b u z=>⟨fun y=>(by rw[y,ne] at z; cases z),fun y=>(by rw[y,nT] at z; cases z)⟩
 refine⟨e,T,.ref C,upd (upd H e (ExO e (.ref C) T)) T (TbO T),rfl,I.os,I.bare,⟨fun b o z n y _=>?_,fun b o z n y x=>?_,fun b o z n x=>?_,fun b o z x=>?_,fun b xs z=>?_,fun b o u z=>?_,fun b ps z=>?_⟩,?_,?_,aA,Te,⟨?_,?_⟩,?_⟩
 ·have g:=ib.keep b o z n y (by simp)
  exact l.keep b o (nb b o g) (nf b y (iL b o z)) (m.keeps b o g)
 ·obtain⟨sl,g⟩:=ib.slot b o z n y x;obtain⟨sl2,g2⟩:=l.slot b _ (nb b _ g) (m.keeps b _ g);exact⟨sl2,g2⟩
 ·obtain⟨o',g⟩:=ib.there b o z x;rw[u1 b (nbT b _ g) (nb b _ g)];exact ib.free b o z n x
 ·obtain⟨o',g⟩:=ib.there b o z x;obtain⟨sl2,g2⟩:=l.slot b _ (nb b _ g) (m.keeps b _ g);exact⟨_,g2⟩
 ·have g:=ib.tups b xs z;rw[u1 b (hu b _ g).2 (hu b _ g).1]; exact g
 ·have g:=ib.vN b o u z;rw[u1 b (hu b _ g).2 (hu b _ g).1]; exact g
 ·obtain⟨more,g⟩:=ib.yP b ps z;exact⟨more,by rw[u1 b (hu b _ g).2 (hu b _ g).1]; exact g⟩
 ·refine(show jK P w H s.heap from I.hok).ext (fun b=>b=e\/b=T) (fun b u v z y x=>?_) (fun b z=>?_) (fun b z=>?_) (fun b u z y=>?_)
  ·have g:=(I.hok b u z).there;refine l.keep b v (fun q=>y (.inl q)) (fun hm=>?_) (m.keeps b v x);have:=I.BZ b hm;rw[z] at this; cases this
  ·rcases z with rfl | rfl
   ·exact .inl ne
   ·exact .inl nT
  ·exact u1 b (fun q=>z (.inr q)) fun q=>z (.inl q)
  ·rcases z with rfl | rfl
   ·rw[aH (Ne.symm Te),aA] at y;cases y;exact aaO l.ex
   ·rw[aA] at y;cases y;exact aaN l.tb
 ·rw[aH (Ne.symm Te),aA]
 ·cases z:s0.heap.get? e with
  | none=>rfl
  | some o=>
   obtain⟨o',g⟩:=ib.there e o z (by simp)
   rw[m.new] at g; cases g
 ·cases z:s0.heap.get? T with
  | none=>rfl
  | some o=>
   obtain⟨o',g⟩:=ib.there T o z (by simp)
   exact absurd rfl (nbT T o' g)
 ·exact q _ ((aO ne _).trans (aO (by rw[aH Te]; exact nT) _))
end
def WW:List AA:=[.type "ValueError",.type "Exception",.type "BaseException",.type "object"]
structure ExC(K:Frag)(mg:Str->Option AA)(x:Str)(C:Addr):Prop where
 bound:mg x=some (.ref C)
 ok:excIn K C WW "ValueError.__new__" = true
theorem ExC.obj{K:Frag}{C:Addr}{h:Heap}(X:K.In h)(q:excIn K C WW "ValueError.__new__" = true) :
  ∃bm N nm qn bs hdct sn sub ab col dd k0 k1 k2 k3 k5 mN,h.get? C=some (excClassObj nm qn C N bs bm hdct sn sub ab col dd k0 k1 k2 k3 k5 "ValueError.__new__")/\h.Ns N mN/\mN "__init__" = none/\OwnTail h WW bm:=by
 unfold excIn at q;split at q
 ·rename_i dd cd sl ho;split at q
  ·rename_i C' bm k0 k1 k2 k3 n k5 hm hs;simp only[Fx,beq_iff_eq,Bool.not_eq_true'] at q;obtain⟨⟨⟨⟨⟨rfl,rfl⟩,a1⟩,a2⟩,a3⟩,a4⟩:=q;cases cd with
   | mk nm bs mro ns qn hd sn sub ab col del=>
    dsimp only at hm a1 a3 a4;subst hm a1;obtain⟨l⟩:=sl;have e:l=[k0,k1,k2,k3,some (.builtin "ValueError.__new__"),k5]:=hs;subst e;exact(ac6 bm ns nm qn bs hd sn sub ab col dd k0 k1 k2 (Eg k3 k5 _ ⟨X _ _ ho,.of_isNs (PySem.W.isNs_of_in X a3),PySem.W.nsMap_none_of_in X a3 a4,PySem.W.tail_of_in X a2⟩))
  ·cases q
 ·cases q
def qp(E:XK)(C:Addr)(ta:TA):TS:=fun _ σ H=>ta σ H fun vs H1=>vs.length<=sizeLine/\∀H',aK H1 H'->E (.ref C) none H'
section
variable{P:AC}{w:World}{K:Frag}{mg:Str->Option AA}{base:Heap}{N:List Str}{qual:Str}{scope:Scope}{f:Addr}{cd:AA}{A:Around}{outer:List Env}{s0:AB}{H0:Hp}{E:XK}
theorem Gp{x:Str}{C:Addr}{e0:Expr}{np cpos pos:Pos}{ta:TA}(c:ExC K mg x C)(Ri:jK P w H0 s0.heap)(ha:PA (k_ (wy P w) P w K mg base N qual scope f cd A outer s0 H0 E) [e0] ta)(hg: ~~~(Gl (k_ (wy P w) P w K mg base N qual scope f cd A outer s0 H0 E) x))
  (hd:((x==("__debug__" : Str))=false)⁻¹)
  (he: ~~~(starEach [e0] (k_ (wy P w) P w K mg base N qual scope f cd A outer s0 H0 E).env=[(false,eval e0 (k_ (wy P w) P w K mg base N qual scope f cd A outer s0 H0 E).env)])) :
  PS (k_ (wy P w) P w K mg base N qual scope f cd A outer s0 H0 E) (.Raise (some (.Call (.Name x np) [e0] [] cpos)) none pos) (qp E C ta):=by
 symm;intro D I h;obtain⟨bm,N1,nm,qn,bs,hdct,sn,sub,ab,col,dd,k0,k1,k2,k3,k5,mN,hC,hN,hni,T⟩:=ExC.obj (show K.In base from I.mod.V_) c.ok;have bk:∀{s:AB}{H:Hp}{σ:St},Inv (k_ (wy P w) P w K mg base N qual scope f cd A outer s0 H0 E) ae σ H s->∀b o,base.get? b=some o->s.heap.get? b=some o:=fun I=>I.bk;refine wpAny_Raise_call_subU (C:=C) (nm:=nm) (q:=qn) (N:=N1) (bs:=bs) (bm:=bm) (hdct:=hdct) (sn:=sn) (sub:=sub) (ab:=ab) (col:=col) (dd:=dd) (k0:=k0) (k1:=k1) (k2:=k2) (k3:=k3) (k5:=k5) (newId:="ValueError.__new__")
  PySem.F.excBase_ValueError ⋯ PySem.F.excBase_ValueError (mN:=mN) (T.hasType PySem.F.excBase_ValueError.hasBase) (I.ok.hd rfl) (by rw[he]; rfl) hni (vY I hg c.bound ⟨rfl,?_⟩ hd)
 have g:=ha cpos ae s σ H _ I h;rw[he] at g ⊢;refine Calls.evalArgs_plain (nW g (fun us s2 z=>?_) fun _ _ y=>y);refine Gm z fun vs H2 I2 rv l2 q2=>?_; clear z;refine⟨rfl,by rw[<- rv.length]; exact l2,bk I2 _ _ hC,hN.keeps (bk I2),T.keeps (bk I2),fun h' e m=>Iz I2 m Ri q2⟩
end
section
variable{X:Cx}{ae:List (Addr×Obj)}{σ:St}{H:Hp}{s:AB}
end
section
variable{X:Cx}{ae:List (Addr×Obj)}{σ:St}{H:Hp}{s:AB}
end
section
variable{X:Cx}{ae:List (Addr×Obj)}{σ:St}{H1:Hp}{s1 s':AB}
end
section
variable{P:AC}{w:World}{K:Frag}{mg:Str->Option AA}{base:Heap}
theorem Rq{CX:Lx}{k:Nat}{f:Addr}{name qual:Str}{params:Arguments}{body:List Stmt}{scope:Scope}{dV kV doc pm cdv ct oc:AA}{an od:Option Addr}
  {osl:Array (Option AA)} {N ps:List Str} {sp:Sp} (lk:K.lookup f=some ⟨oc,od,.func (fnOf name qual params body scope dV kV doc pm an cdv ct),osl⟩) (hcd:codeIn K cdv qual=true) (S:aV N ps scope)
  (len:∀vs H Q E,sp vs H Q E->vs.length=ps.length)
  (hbody:∀(A:Around)(outer:List Env)(s:AB)(H:Hp)(vs:List V)(Q:VK)(E:XK),jK P w H s.heap->eG k (A.deeper (envOfC qual scope s.heap.objs.size f cdv))->sp vs H Q E ->
   ∃t,Ej (k_ CX P w K mg base N qual scope f cdv A outer s H E) body t/\t { nx:=fun _ H'=>Q .non H',rt:=Q } (start N vs) H) :
  bF P w K mg base CX (k+1) f (fnOf name qual params body scope dV kV doc pm an cdv ct) ps sp:=by
 refine⟨len,fun A outer s H args us vs Q E hr e0 hb r hsp=>?_⟩;have hl:=len _ _ _ _ hsp;have KX:K.In s.heap:=e0.mod.V_.keeps fun b o e=>(e0.bs b o e).1;have lim:s.heap.NoLimit:=e0.mod.nolimit.keeps fun b o e=>(e0.bs b o e).1
 have hkind:∀y∈ps.zip us,scope.names.lookup y.1=some .local\/(scope.names.lookup y.1=some .cell/\((cellsFrom (s.heap.objs.size+1) scope.names []).lookup y.1).isSome=true):=fun⟨n,v⟩ hy=>by
  rcases S.par n (Aq hy).1 with q | q
  ·exact .inl q
  ·exact .inr ⟨q,cellsFrom_some _ _ _ (.inl q)⟩
 refine codeAny_call_function hr.depth (KX _ _ lk) rfl S.co S.gen rfl (codeRec_of KX hcd) (hb _ _ _ _ ?_);refine wpAny_newFunctionEnv_cells S.kind hkind fun env he s1 x=>?_;subst he;refine⟨lim.keeps x.toInCall.keep,codeAny_func ?_⟩;obtain⟨t,ht,hq⟩:=hbody A outer s H vs Q E e0.hok (hr.deeper _) hsp;have I:Inv (k_ CX P w K mg base N qual scope f cdv A outer s H E) [] (start N vs) H s1:=Bb S hr.hd e0 hl r x;refine nW (ht [] s1 (start N vs) H _ I hq) (fun fl s' hs=>?_) fun e s' hs=>hs
 have fin:∀{σ':St}{H':Hp}{v:V}{u:AA},Inv (k_ CX P w K mg base N qual scope f cdv A outer s H E) [] σ' H' s'->RelV v u->Q v H'->CE outer P w H s Q u s':=
  fun {σ' H' v u} J rv q=>⟨v,H',J.os,J.bare,J.base,J.hok,rv,q⟩
 cases fl with
 | ret u=>
  obtain⟨v,σ',H',J,rv,q⟩:=hs;exact fin J rv q
 | next=>
  obtain⟨σ',H',J,q⟩:=hs;exact fin (v:=V.non) (u:=Value.none) J rfl q
 | brk=>
  obtain⟨_,_,_,q⟩:=hs;exact False.elim q
 | cont=>
  obtain⟨_,_,_,q⟩:=hs;exact False.elim q
theorem jL.okE{x qual:Str}{st:Stmt}{f:Addr}{fd:FuncData}{N ps:List Str}{k:Nat}{sp:Sp}(F:jL K x qual st f fd)(S:aV N ps (aD st))(len: autoParam (∀vs H Q E,sp vs H Q E->vs.length=ps.length) z_g._auto_1)
  (hbody:∀(cdv:AA)(A:Around)(outer:List Env)(s:AB)(H:Hp)(vs:List V)(Q:VK)(E:XK),jK P w H s.heap->eG k (A.deeper (envOfC qual (aD st) s.heap.objs.size f cdv))->sp vs H Q E ->
   ∃t,Ej (k_ (wy P w) P w K mg base N qual (aD st) f cdv A outer s H E) (bK st) t/\t { nx:=fun _ H'=>Q .non H',rt:=Q } (start N vs) H):bF P w K mg base (wy P w) (k+1) f fd ps sp:=by
 obtain⟨oc,od,kV,doc,pm,an,cdv,ct,osl,rfl,lk,hcd⟩:=F.ex;exact Rq lk hcd S len fun A outer s H vs Q E Ri hr hsp=>hbody cdv A outer s H vs Q E Ri hr hsp
structure WK(P:AC)(w:World)(K:Frag)(mg:Str->Option AA)(base:Heap)(k:Nat)(x:Str)(ps:List Str)(sp:Sp) where
 f:Addr
 fd:FuncData
 G:bF P w K mg base (wy P w) k f fd ps sp
 kp:keepIn K (.ref f)=true
 b:Binds K fd ps []
 m:mg x=some (.ref f)
def WK.mono{j k:Nat}{x:Str}{ps:List Str}{sp:Sp}(c:WK P w K mg base j x ps sp)(h:j<=k):WK P w K mg base k x ps sp:={ c with G:=c.G.mono h }
def WK.calm{k:Nat}{x:Str}{ps:List Str}{sp:Sp}(c:WK P w K mg base k x ps sp):Ct P w K mg base k x ps (fun vs H Q _=>sp vs H Q E0):=⟨c.f,c.fd,⟨fun vs H Q E h=>c.G.len _ _ _ _ h,fun A outer s H args us vs Q E hr he hb hv h=>codeAny_mono (c.G.run A outer s H args us vs Q E0 hr he hb hv h) fun r s' z=>by
 cases r with
 | error e=>
  obtain⟨_,_,_,_,_,_,_,_,_,_,_,_,_,q⟩:=z;exact q.elim
 | ok fl=>cases fl <;> exact z⟩,c.kp,c.b,c.m⟩
end
section
variable{prog:AC}{w:World}{A:Around}{E:AA->AB->Prop}{s:AB}{K:Frag}{x D:Addr}{ox:Obj}{od:Option Obj}
structure ExK(K:Frag)(D:Addr):Prop where
 ga:findIn K (.ref D) "__getattribute__" = some (some (.builtin "BaseException.__getattribute__"))
 gt:findIn K (.ref D) "__getattr__" = some none
 fo:findObj K D none "__class__" = some (.bind (.builtin "getset_descriptor.__get__") (.builtin "object.__class__"))
 sb:subIn K (.ref D) (.type "BaseException")=some true
 ob:mroIn K D (.type "object")=some true
end
section
variable{X:Cx}
end
noncomputable instance acH:DecidableEq PyData:=fun a b=>Classical.propDecidable (a=b)
mutual
def ndK:PyData->Bool
 | .int _=>true
 | .tuple ds=>aaW ds
 | _=>false
def aaW:List PyData->Bool
 | []=>true
 | d::ds=>ndK d&&aaW ds
end
mutual
def Rg:PyData->Int
 | .int i=>hashInt i
 | .tuple ds=>reduceHash (Builtin.Tuple.tupleHashOf (Rb ds))
 | _=>0
def Rb:List PyData->List Int
 | []=>[]
 | d::ds=>Rg d::Rb ds
end
structure abK(d:PyData):Prop where
 t:∃ds,d=.tuple ds
 k:ndK d=true
 dp:d.depth<=8
section
variable{X:Cx}{ae:List (Addr×Obj)}{σ:St}{H:Hp}{s:AB}{a:Addr}{kvs:List (PyData×V)}
def abL(H:Hp)(d:PyData)(y:V):Prop:=abK d/\At H d y
end
section
variable{X:Cx}
end
section
variable{P:AC}{w:World}{K:Frag}{mg:Str->Option AA}{base:Heap}{N:List Str}{qual:Str}{scope:Scope}{f:Addr}{cd:AA}{A:Around}{outer:List Env}{s0:AB}{H0:Hp}{E:XK}
def tK(sp:Sp)(vO:List V)(E:XK)(t:TA):TE:=fun σ H Q=>t σ H fun vs H1=>sp (vs++vO) H1 Q (fun cls _ H2=>∀H3,(aK H1 H2->aK H1 H3)->E cls none H3)
end
abbrev TX:=St->Hp->VK->(AA->Hp->Hp->Prop)->Prop
abbrev Vu:=Ends->(AA->St->Hp->Hp->Prop)->St->Hp->Prop
def XL(X:Cx)(ae:List (Addr×Obj))(σ:St)(EE:AA->Hp->Hp->Prop):AA->AB->Prop:=fun e s'=>∃H1 s1 E',Inv X ae σ H1 s1/\wy X.prog X.w X.stack H1 s1 E' e s'/\∀cls H2,E' cls none H2->EE cls H1 H2
def XLs(X:Cx)(ae:List (Addr×Obj))(EE:AA->St->Hp->Hp->Prop):AA->AB->Prop:=fun e s'=>∃σ1 H1 s1 E',Inv X ae σ1 H1 s1/\wy X.prog X.w X.stack H1 s1 E' e s'/\∀cls H2,E' cls none H2->EE cls σ1 H1 H2
structure PX(X:Cx)(e:Expr)(t:TX):Prop where
 mk ::
 go:∀(ae:List (Addr×Obj))(s:AB)(σ:St)(H:Hp)(Q:VK)(EE:AA->Hp->Hp->Prop),Inv X ae σ H s->t σ H Q EE->wpAny (model X.prog X.w) X.A (eval e X.env) (EP X ae σ Q) (XL X ae σ EE) s
structure PSX(X:Cx)(st:Stmt)(t:Vu):Prop where
 mk ::
 go:∀(ae:List (Addr×Obj))(s:AB)(σ:St)(H:Hp)(D:Ends)(EE:AA->St->Hp->Hp->Prop),Inv X ae σ H s->t D EE σ H->wpAny (model X.prog X.w) X.A (exec st X.env) (SP X ae D) (XLs X ae EE) s
structure akz(X:Cx)(st:List Stmt)(t:Vu):Prop where
 mk ::
 go:∀(ae:List (Addr×Obj))(s:AB)(σ:St)(H:Hp)(D:Ends)(EE:AA->St->Hp->Hp->Prop),Inv X ae σ H s->t D EE σ H->wpAny (model X.prog X.w) X.A (execs st X.env) (SP X ae D) (XLs X ae EE) s
def Y4(te:TE):TX:=fun σ H Q _=>te σ H Q
def z9(sp:Sp)(vO:List V)(ta:TA):TX:=fun σ H Q EE=>ta σ H fun vs H1=>sp (vs++vO) H1 Q (fun cls _ H2=>EE cls H1 H2)
def Y9(tc:TT)(a b:TX):TX:=fun σ H Q EE=>tc σ H fun d H1=>if d=true then a σ H1 Q EE else b σ H1 Q EE
def Mh(i:Nat)(t:TX):Vu:=fun D EE σ H=>t σ H (fun v H'=>D.nx (σ.set i (some v)) H') (fun cls H1 H2=>EE cls σ H1 H2)
def zY(t:TX):Vu:=fun D EE σ H=>t σ H (fun _ H'=>D.nx σ H') (fun cls H1 H2=>EE cls σ H1 H2)
def Mm(tc:TT)(a b:Vu):Vu:=fun D EE σ H=>tc σ H fun d H1=>if d=true then a D EE σ H1 else b D EE σ H1
def YZ(t:TS):Vu:=fun D _ σ H=>t D σ H
def Mi(a b:Vu):Vu:=fun D EE σ H=>a { D with nx:=fun σ' H'=>b D EE σ' H' } EE σ H
section
variable{X:Cx}
end
section
variable{X:Cx}
end
abbrev qm(K:Frag)(x:Str)(st:Stmt)(f:Addr):Prop:=∃(oc:AA)(od an:Option Addr)(sl:Array (Option AA))(kV dc pm cd ct:AA),nsIn K mainGlobals x=some (some (.ref f))/\K.lookup f=some ⟨oc,od,.func (fnOf x x (b7 st) (bK st) (aD st) .none kV dc pm an cd ct),sl⟩/\codeIn K cd x=true/\keepIn K (.ref f)=true
abbrev Wz(K:Frag)(x:Str)(st:Stmt)(f:Addr)(T:Addr)(i:Int):Prop:=∃(oc oT:AA)(od an dT:Option Addr)(sl sT:Array (Option AA))(kV dc pm cd ct:AA)(t:Tok)(nT:Nat),nsIn K mainGlobals x=some (some (.ref f))/\K.lookup f=some ⟨oc,od,.func (fnOf x x (b7 st) (bK st) (aD st) (.ref T) kV dc pm an cd ct),sl⟩/\codeIn K cd x=true/\keepIn K (.ref f)=true/\K.lookup T=some ⟨oT,dT,.seq #[.int i t] nT,sT⟩
structure Has(K:Frag)(mg:Str->Option AA)(x:Str)(st:Stmt)(ps:List Str) where
 f:Addr
 fd:FuncData
 F:jL K x x st f fd
 b:Binds K fd ps []
 m:mg x=some (.ref f)
structure YS(K:Frag)(mg:Str->Option AA)(x:Str)(st:Stmt)(ps:List Str)(i:Int) where
 f:Addr
 fd:FuncData
 T:Addr
 t:Tok
 F:J2 K x x st f fd T i t
 b:Binds K fd ps []
 bd:Binds K fd ps [.int i t]
 m:mg x=some (.ref f)
section
variable{K:Frag}{h:Heap}{mg:Str->Option AA}
theorem qm.mk{x:Str}{st:Stmt}{f:Addr}{oc:AA}{od an:Option Addr}{sl:Array (Option AA)}{kV dc pm cd ct:AA}(a:nsIn K mainGlobals x=some (some (.ref f)))(l:K.lookup f=some ⟨oc,od,.func (fnOf x x (b7 st) (bK st) (aD st) .none kV dc pm an cd ct),sl⟩)(c:codeIn K cd x=true)(k:keepIn K (.ref f)=true):qm K x st f:=⟨oc,od,an,sl,kV,dc,pm,cd,ct,a,l,c,k⟩
theorem Wz.mk{x:Str}{st:Stmt}{f T:Addr}{i:Int}{oc oT:AA}{od an dT:Option Addr}{sl sT:Array (Option AA)}{kV dc pm cd ct:AA}{t:Tok}{nT:Nat}(a:nsIn K mainGlobals x=some (some (.ref f)))(l:K.lookup f=some ⟨oc,od,.func (fnOf x x (b7 st) (bK st) (aD st) (.ref T) kV dc pm an cd ct),sl⟩)(c:codeIn K cd x=true)(k:keepIn K (.ref f)=true)(e:K.lookup T=some ⟨oT,dT,.seq #[.int i t] nT,sT⟩):Wz K x st f T i:=⟨oc,oT,od,an,dT,sl,sT,kV,dc,pm,cd,ct,t,nT,a,l,c,k,e⟩
theorem qm.has{x:Str}{st:Stmt}{f:Addr}(e:qm K x st f)(X:K.In h)(G:h.Ns mainGlobals mg){ps:List Str}(H:∀(kV doc pm:AA) (an:Option Addr) (cdv ct:AA) (us:List AA),us.length=ps.length->bindArgs (fnOf x x (b7 st) (bK st) (aD st) .none kV doc pm an cdv ct) ⟨us,[]⟩=pure (ps.zip us)):Nonempty (Has K mg x st ps):=by
 obtain⟨oc,od,an,sl,kV,dc,pm,cd,ct,a,l,c,k⟩:=e;have F:=JB (st:=st) l c k;exact⟨⟨_,_,F,F.binds H,mg_of X G a⟩⟩
theorem Wz.has{x:Str}{st:Stmt}{f T:Addr}{i:Int}(e:Wz K x st f T i)(X:K.In h)(G:h.Ns mainGlobals mg){ps:List Str}
  (H:∀(t:Tok)(kV doc pm:AA)(an:Option Addr)(cdv ct:AA)(us:List AA),(us++[]).length=ps.length->∃k,bindArgs (fnOf x x (b7 st) (bK st) (aD st) (.ref T) kV doc pm an cdv ct) ⟨us,[]⟩=seqItems? (.ref T) >>= k/\k (some #[.int i t])=pure (ps.zip (us++[])))
  (H':∀(t:Tok)(kV doc pm:AA)(an:Option Addr)(cdv ct:AA)(us:List AA),(us++[Value.int i t]).length=ps.length->∃k,bindArgs (fnOf x x (b7 st) (bK st) (aD st) (.ref T) kV doc pm an cdv ct) ⟨us,[]⟩=seqItems? (.ref T) >>= k/\k (some #[.int i t])=pure (ps.zip (us++[.int i t]))):Nonempty (YS K mg x st ps i):=by
 obtain⟨oc,oT,od,an,dT,sl,sT,kV,dc,pm,cd,ct,t,nT,a,l,c,k,e⟩:=e;have F:J2 K x x st f _ T i t:=⟨(xi9 _ _ _ _ _ _ _ _ _ ⟨rfl,l,c⟩),k,⟨_,_,e,rfl⟩⟩;exact⟨⟨_,_,_,_,F,F.binds (H t),F.binds (H' t),mg_of X G a⟩⟩
def Has.ct{x:Str}{st:Stmt}{ps:List Str}{k:Nat}{sp:Sp}(h:Has K mg x st ps)(P:AC)(w:World)(base:Heap)(G:bF P w K mg base iy k h.f h.fd ps sp):Ct P w K mg base k x ps sp:=⟨h.f,h.fd,G,h.F.kp,h.b,h.m⟩
def Has.ctE{x:Str}{st:Stmt}{ps:List Str}{k:Nat}{sp:Sp}(h:Has K mg x st ps)(P:AC)(w:World)(base:Heap)(G:bF P w K mg base (wy P w) k h.f h.fd ps sp):WK P w K mg base k x ps sp:=⟨h.f,h.fd,G,h.F.kp,h.b,h.m⟩
def YS.ct{x:Str}{st:Stmt}{ps:List Str}{i:Int}{k:Nat}{sp:Sp}(h:YS K mg x st ps i)(P:AC)(w:World)(base:Heap)(G:bF P w K mg base iy k h.f h.fd ps sp):SN P w K mg base k x ps i sp:=⟨h.f,h.fd,h.t,G,h.F.kp,h.b,h.bd,h.m⟩
abbrev Nb(K:Frag)(x:Str):Prop:=nsIn K mainGlobals x=some none
abbrev Ni(K:Frag)(x:Str)(i:Int):Prop:=∃t,nsIn K mainGlobals x=some (some (.int i t))
abbrev Eb(K:Frag)(x s:Str):Prop:=∃t,nsIn K mainGlobals x=some (some (.str s t))
theorem Ni.mk{x:Str}{i:Int}{t:Tok}(a:nsIn K mainGlobals x=some (some (.int i t))):Ni K x i:=⟨t,a⟩
theorem Eb.mk{x s:Str}{t:Tok}(a:nsIn K mainGlobals x=some (some (.str s t))):Eb K x s:=⟨t,a⟩
theorem Ni.gi{x:Str}{i:Int}(e:Ni K x i)(X:K.In h)(G:h.Ns mainGlobals mg):Gi mg x i:=let ⟨t,z⟩:=e; ⟨t,mg_of X G z⟩
theorem Eb.gs{x s:Str}(e:Eb K x s)(X:K.In h)(G:h.Ns mainGlobals mg):Gs mg x s:=let ⟨t,z⟩:=e; ⟨t,mg_of X G z⟩
abbrev NT(K:Frag)(x:Str)(vs:List AA):Prop:=∃(a:Addr)(n:Nat)(sl:Array (Option AA)),nsIn K mainGlobals x=some (some (.ref a))/\K.lookup a=some ⟨.type "tuple",none,.seq vs.toArray n,sl⟩
theorem NT.mk{x:Str}{vs:List AA}{a:Addr}{n:Nat}{sl:Array (Option AA)}(b:nsIn K mainGlobals x=some (some (.ref a)))(l:K.lookup a=some ⟨.type "tuple",none,.seq vs.toArray n,sl⟩):NT K x vs:=⟨a,n,sl,b,l⟩
end
theorem RT:bootBuiltins "set" = some (.type "set"):=by decide +kernel
section
variable{X:Cx}{ae:List (Addr×Obj)}{σ:St}{H1:Hp}{s1 s':AB}
end
section
variable{P:AC}{w:World}{K:Frag}{mg:Str->Option AA}{base:Heap}
structure CtF(P:AC)(w:World)(K:Frag)(mg:Str->Option AA)(base:Heap)(k:Nat)(x:Str)(ps:List Str)(i:Int)(sp:Sp) where
 f:Addr
 fd:FuncData
 t:Tok
 G:bF P w K mg base (wy P w) k f fd ps sp
 kp:keepIn K (.ref f)=true
 b:Binds K fd ps []
 bd:Binds K fd ps [.int i t]
 m:mg x=some (.ref f)
end
section
variable{X:Cx}
end
section
variable{X:Cx}
def Ai:List V->Hp->VK->Prop:=fun vs H Q=>∃j:Int,vs=[.int j]/\-(2 ^ 62)<=j/\j<2 ^ 62/\∀p H',H p=none->aK H H'->H' p=some (.Zi 0 j)->Q (.ref p) H'
def Aj:List V->Hp->VK->Prop:=fun vs H Q=>∃(p:Addr)(j:Int),vs=[.ref p]/\H p=some (.Zi 0 j)/\-(2 ^ 62)<=j/\j<2 ^ 62/\j.toNat<=1000/\∀l H',H l=none->aK H H'->H' l=some (.lst ((List.range j.toNat).map fun i:Nat=>V.int i))->Q (.ref l) H'
end
section
variable{X:Cx}
end
section
variable{X:Cx}
theorem Io(hu:X.A.units+64<cLine):Oo X (fun o i v H Q=>∃a H',o=.ref a/\vQ H a i v H'/\Q H'):=by
 symm;intro o i v ov iv u Q I ro ri rv h;obtain⟨a,H',rfl,g,q⟩:=h;cases ro;exact Bk ∅ I g ri rv fun s' I'=>⟨H',I',q⟩
theorem yq(hu:X.A.units+64<cLine):OD X (fun x y H Q=>∃a v,x=.ref a/\m8 H a y (some v)/\Q v H):=by
 refine .mk ?_;intro value slice ae s σ H x y v u Q I rx ry h hs;obtain⟨a,v',rfl,g,q⟩:=h;cases rx;have hT:=Ha I g;unfold subscriptTail;refine aN ?_;rw[getitemInPython_of_ne hT.not_modules];refine aN (wpAny_specialOf hT PySem.F.slot_dict_getitem.lookup ?_)
 have fin:wpAny (model X.prog X.w) X.A (subscripted slice false (.ref a) u) (fun r s₃=>wpAny (model X.prog X.w) X.A (letTemporaryGo value (.ref a) r >>= fun _=>pure r) (EP X ae σ Q) X.xe s₃) X.xe s:=by
  rw[hs];exact wpAny_operating (Bl ∅ I g ry fun w' s' I' yU=>aN (wpAny_letTemporaryGo (bV ⟨v',H,I',yU,q⟩)))
 first
  | exact bV (aN fin)
  | exact aN (bV (aN fin))
  | exact aN fin
end
section
variable{X:Cx}
end
section
variable{X:Cx}
end
section
variable{X:Cx}
end
def xB(r:List V->Hp->VK->Prop)(t:TX):TX:=fun σ H Q EE=>t σ H (fun v H1=>r [v] H1 Q) EE
section
variable{X:Cx}
end
theorem RD{K:Frag}{nt:Nat}{g:TG}{js:List Nat}{a:Addr}{xs:List V}{tl te:TE}{σ:St}{H:Hp}{Q:VK}(τ:Nat->St)(hτ:∀i,(τ i).length=nt)(hl:∀R:VK,R (.ref a) H->tl σ H R)(ha:H a=some (.tup xs))
  (h:∀acc,H acc=none->∃Pv:Nat->List V->Hp->Prop,Pv 0 [] (upd H acc (.lst []))/\(∀i ys H',Pv i ys H'->H' a=some (.tup xs)) /\
   (∀i x ys H',xs[i]?=some x->Pv i ys H'->(∀R:St->Hp->Prop,R (τ i++bQ js σ) H'->g x (List.replicate nt none++bQ js σ) H' R)/\te (τ i++bQ js σ) H' fun y H4=>H4 acc=some (.lst ys)/\ys.length<sizeLine/\Pv (i+1) (ys++[y]) (upd H4 acc (.lst (ys++[y]))))/\∀ys H',Pv xs.length ys H'->Q (.ref acc) H'):ik nt js (GQ K tl) g tL te σ H Q:=by
 refine hl _ ⟨a,rfl,⟨xs,fK.of ha⟩,fun acc hacc=>?_⟩;refine mL (h acc hacc) fun Pv p0 pA iQ=>?_; obtain⟨ps,pf⟩:=iQ;refine⟨fun i m ys H2=>m=xs.length-i/\i<=xs.length/\Pv i ys H2,⟨_,rfl,gC _,p0⟩,?_⟩;rintro i m ys H2 ⟨rfl,hi,hP⟩;have ht:fK K H2 a xs:=fK.of (pA _ _ _ hP);by_cases hlt:i<xs.length
 ·refine .inr ⟨⟨xs,xs[i],ht,cT hlt⟩,fun x H3 y=>?_⟩;obtain⟨e1,y⟩:=y;subst e1;obtain⟨gg,tt⟩:=ps i x ys _ (y xs ht) hP;refine gg _ ⟨⟨?_,?_⟩,?_⟩
  ·rw[Qu (by rw[hτ]; exact bw _),<- hτ i,Fz,vg]
  ·rw[cC,cC,hτ,pM]
  unfold tL;simp only[if_true]
  have e:(fun(y:V)(H4:Hp)=>H4 acc=some (.lst ys)/\ys.length<sizeLine/\Pv (i+1) (ys++[y]) (upd H4 acc (.lst (ys++[y]))))=fun y H4=>H4 acc=some (.lst ys)/\ys.length<sizeLine/\∃m',m'<xs.length-i/\(m'=xs.length-(i+1)/\i+1<=xs.length/\Pv (i+1) (ys++[y]) (upd H4 acc (.lst (ys++[y])))):=
   funext fun y=>funext fun H4=>propext ⟨fun⟨z1,z2,z3⟩=>⟨z1,z2,xs.length-(i+1),∅,rfl,hlt,z3⟩,fun⟨z1,z2,_,_,_,_,z3⟩=>⟨z1,z2,z3⟩⟩
  rw[e] at tt;exact tt
 ·have e:i=xs.length:=by omega
  subst e;exact .inl ⟨⟨xs,ht,bw _⟩,pf _ _ hP⟩
abbrev TAX:=St->Hp->(List V->Hp->Prop)->(AA->Hp->Hp->Prop)->Prop
structure PXA(X:Cx)(es:List Expr)(t:TAX):Prop where
 mk ::
 go:∀(pos:Pos)(ae:List (Addr×Obj))(s:AB)(σ:St)(H:Hp)(Q:List V->Hp->Prop)(EE:AA->Hp->Hp->Prop),Inv X ae σ H s->t σ H Q EE->wpAny (model X.prog X.w) X.A (spliced (backTo pos (starEach es X.env))) (AP X ae σ Q) (XL X ae σ EE) s
def Mj:TAX:=fun _ H Q _=>Q [] H
def zZ(t:TX)(u:TAX):TAX:=fun σ H Q EE=>t σ H (fun v H1=>u σ H1 (fun vs H2=>Q (v::vs) H2) EE) EE
def Ml(t:TAX):TX:=fun σ H Q EE=>t σ H (fun xs H1=>xs.length<=sizeLine/\∀p H',H1 p=none->aK H1 H'->H' p=some (.lst xs)->Q (.ref p) H') EE
def Mg(t:TAX):TX:=fun σ H Q EE=>t σ H (fun xs H1=>xs.length<=sizeLine/\∀p H',H1 p=none->aK H1 H'->H' p=some (.tup xs)->Q (.ref p) H') EE
section
variable{X:Cx}
end
theorem RJ{K:Frag}{nt:Nat}{g:TG}{js:List Nat}{a:Addr}{xs:List V}{tl te:TE}{σ:St}{H:Hp}{Q:VK}(τ:Nat->St)(hτ:∀i,(τ i).length=nt)(hl:∀R:VK,R (.ref a) H->tl σ H R)(ha:H a=some (.lst xs))
  (h:∀acc,H acc=none->∃Pv:Nat->List V->Hp->Prop,Pv 0 [] (upd H acc (.lst []))/\(∀i ys H',Pv i ys H'->H' a=some (.lst xs)) /\
   (∀i x ys H',xs[i]?=some x->Pv i ys H'->(∀R:St->Hp->Prop,R (τ i++bQ js σ) H'->g x (List.replicate nt none++bQ js σ) H' R)/\te (τ i++bQ js σ) H' fun y H4=>H4 acc=some (.lst ys)/\ys.length<sizeLine/\Pv (i+1) (ys++[y]) (upd H4 acc (.lst (ys++[y]))))/\∀ys H',Pv xs.length ys H'->Q (.ref acc) H'):ik nt js (p_ K tl) g tL te σ H Q:=by
 refine hl _ ⟨a,rfl,⟨xs,bT.of ha⟩,fun acc hacc=>?_⟩;refine mL (h acc hacc) fun Pv p0 pA iQ=>?_; obtain⟨ps,pf⟩:=iQ;refine⟨fun i m ys H2=>m=xs.length-i/\i<=xs.length/\Pv i ys H2,⟨_,rfl,gC _,p0⟩,?_⟩;rintro i m ys H2 ⟨rfl,hi,hP⟩;have ht:bT K H2 a xs:=bT.of (pA _ _ _ hP);by_cases hlt:i<xs.length
 ·refine .inr ⟨⟨xs,xs[i],ht,cT hlt⟩,fun x H3 y=>?_⟩;obtain⟨e1,y⟩:=y;subst e1;obtain⟨gg,tt⟩:=ps i x ys _ (y xs ht) hP;refine gg _ ⟨⟨?_,?_⟩,?_⟩
  ·rw[Qu (by rw[hτ]; exact bw _),<- hτ i,Fz,vg]
  ·rw[cC,cC,hτ,pM]
  unfold tL;simp only[if_true]
  have e:(fun(y:V)(H4:Hp)=>H4 acc=some (.lst ys)/\ys.length<sizeLine/\Pv (i+1) (ys++[y]) (upd H4 acc (.lst (ys++[y]))))=fun y H4=>H4 acc=some (.lst ys)/\ys.length<sizeLine/\∃m',m'<xs.length-i/\(m'=xs.length-(i+1)/\i+1<=xs.length/\Pv (i+1) (ys++[y]) (upd H4 acc (.lst (ys++[y])))):=
   funext fun y=>funext fun H4=>propext ⟨fun⟨z1,z2,z3⟩=>⟨z1,z2,xs.length-(i+1),∅,rfl,hlt,z3⟩,fun⟨z1,z2,_,_,_,_,z3⟩=>⟨z1,z2,z3⟩⟩
  rw[e] at tt;exact tt
 ·have e:i=xs.length:=by omega
  subst e;exact .inl ⟨⟨xs,ht,bw _⟩,pf _ _ hP⟩
section
variable{prog:AC}{w:World}{A:Around}{E:AA->AB->Prop}{s:AB}
end
section
variable{X:Cx}{ae:List (Addr×Obj)}{σ:St}{H1:Hp}{s1 s':AB}
end
def wM(nt:Nat)(js:List Nat)(wi:TI)(g:TG)(tk tv:TE):TE:=fun σ H Q=>wi σ H fun J H1=>∀acc,H1 acc=none->∃W:Nat->Nat->List (Key×V)->Hp->Prop,(∃m,W 0 m [] (upd H1 acc (.dK [])))/\∀i m kvs H2,W i m kvs H2 ->
 (J.stop i H2/\Q (.ref acc) H2)\/(J.go i H2/\∀x H3,J.Er i H2 x H3->g x (List.replicate nt none++bQ js σ) H3 fun σ' H'=>(σ'.drop nt=bQ js σ/\σ'.length=(List.replicate nt (none:Option V)++bQ js σ).length)/\tk σ' H' fun y H4=>tv σ' H4 fun v H5=>
  ∃k,y=kV k/\H5 acc=some (.dK kvs)/\kvs.length<sizeLine/\∃m',m'<m/\W (i+1) m' (putK kvs k v) (upd H5 acc (.dK (putK kvs k v))))
theorem zR{prog:AC}{w:World}{A:Around}{R:Result->AB->Prop}{s:AB}{kx vx target iter:Expr}{sc:Scope}{pos:Pos}{it:AA}{D:Addr}{env:Env}(Iv:Nat->AB->Prop)
  (turn:∀n s,Iv n s->wpAny (model prog w) A (pyNext it) (fun r s1=>match r with
   | none=>R (.ok .next) s1
   | some v=>wpAny (model prog w) A (letOwnedTupleGo target it v) (fun _ s2=>wpAny (model prog w) A (assign target env v) (fun _ s3=>
     wpAny (model prog w) A (eval kx env) (fun kv s4=>wpAny (model prog w) A (eval vx env) (fun vv s5=>
     wpAny (model prog w) A (dictSet D kv vv) (fun _ s6=>∃m,m<n/\Iv m s6) (fun _ _=>False) s5) (fun _ _=>False) s4) (fun _ _=>False) s3) (fun _ _=>False) s2) (fun _ _=>False) s1) (fun _ _=>False) s)
  (n:Nat) (h:Iv n s):codeAny (model prog w) A (.compLoop (.DictComp kx vx [⟨target,iter,[],0⟩] sc pos) 0 it (.ref D) env) R s:=by
 refine codeAny_loop rfl Iv (fun n s hI=>?_) n h;show wpAny _ _ ((compTurn (.DictComp kx vx [⟨target,iter,[],0⟩] sc pos) 0 it (.ref D) env).onRaise (fun x=>do noteFrame x env; theTreesLotGoes x)) _ _ s
 refine wpAny_noted ?_;rw[compTurn_dict];refine aN (Cm (aN (nW (turn n s hI) (fun r s1 q1=>?_) fun _ _ f=>f.elim)));cases r with
 | none=>exact bV q1
 | some v=>
  refine aN (nW q1 (fun _ s2 q2=>?_) fun _ _ f=>f.elim);refine aN (nW q2 (fun _ s3 q3=>aN (wpAny_tests_nil ?_)) fun _ _ f=>f.elim);exact aN (aN (nW q3 (fun kv s4 q4=>aN (pJ (nW q4 (fun vv s5 q5=>aN (Cm (pJ (nW q5 (fun _ s6 q6=>bV ⟨rfl,q6⟩) fun _ _ f=>f.elim)))) fun _ _ f=>f.elim))) fun _ _ f=>f.elim))
theorem yC{X:Cx}{kx vx iter:Expr}{tg:Expr}{g:TG}{nt:Nat}{pos:Pos}{sc:Scope}{wi:TI}{tk tv:TE}{N':List Str}{js:List Nat}{use:Option (AA->Sem Unit)}{Qc:AA->AB->Prop}{ae:List (Addr×Obj)}{s:AB}{σ:St}{H:Hp}{Q:VK}{kp:Pos}(hc:X.calm=true)(hi:PI X tg iter wi)(S:qU X nt N' js sc)
  (hgt:∀fp s H,PG (pC X N' sc fp s H) tg g) (hk:∀fp s H,PE (pC X N' sc fp s H) kx tk) (hv:∀fp s H,PE (pC X N' sc fp s H) vx tv) (hs:∀x,foldedSetIterable iter X.env x=pure x) (I:Inv X ae σ H s) (h:wM nt js wi g tk tv σ H Q)
  (fin:∀(acc C:Addr)(H':Hp)(s':AB),Inv X ae σ H' s'->fD X ae H' C->(∃m,s'.heap.Ns C m)->Q (.ref acc) H'->compPost (model X.prog X.w) X.A X.xe use Qc (.ref acc) C (.ok .next) s') :
  wpAny (model X.prog X.w) X.A (comprehension (.DictComp kx vx [⟨tg,iter,[],0⟩] sc pos) sc X.env kp newDict false (eval iter X.env) use) Qc X.xe s:=by
 refine wpAny_comprehension_free (use:=use) rfl hs S.clos S.kind S.names ?_;refine cz (hi ae s σ H _ I h) fun v s1 q1=>cz q1 fun itv s2 q2=>?_;refine mK q2 fun it fp tn J H2 e I2 T st2 f2 q3=>?_; clear q2;subst e;refine xG ?_;obtain⟨W,⟨m0,w0⟩,turn⟩:=q3 s2.heap.objs.size I2.fresh;have I3:=I2.laid (a:=s2.heap.objs.size) (o:=.dK []) (t':=s2.toks) (fun _ _ q=>fB _ q) (bw _) (G_ s2.heap I2.big)
 have lt2:∀b∈fp,b<s2.heap.objs.size:=fun b hb=>by
  obtain⟨o,ho,_⟩:=T.obj 0 _ st2 b hb;exact bH ho
 generalize e3:({ s2 with heap:=s2.heap.push { cls:=.type "dict",data:=.dict #[] },toks:=s2.toks }:AB)=s3 at I3
 have e3':({ s2 with heap:=s2.heap.push { cls:=.type "dict",dict:=none,data:=.dict #[] } }:AB)=s3:=e3
 have sz3:s3.heap.objs.size=s2.heap.objs.size+1:=by rw[<- e3]; exact fQ ..
 have st3:tn 0 s3.heap:=T.keep 0 _ _ st2 fun b hb o ho=>by rw[<- e3]; exact fB _ ho
 have lt3:∀b∈fp,b<s3.heap.objs.size:=fun b hb=>by rw[sz3]; exact FP (lt2 b hb)
 have f3:∀b∈fp,fD X ae (upd H2 s2.heap.objs.size (.dK [])) b:=fun b hb=>⟨by rw[aH (dJ (lt2 b hb))]; exact(f2 b hb).1,(f2 b hb).2⟩
 generalize hH3:upd H2 s2.heap.objs.size (.dK [])=H3 at I3 f3 w0;refine pU ?_;generalize Yq:pushCells (s3.heap.push { cls:=.type "dict",data:=.dict #[] }) sc.names=h1;have hkp:∀b o,s3.heap.get? b=some o->h1.get? b=some o:=fun b o q=>by rw[<- Yq]; exact pushCells_keeps _ _ b o (fB _ q)
 have hns':h1.Ns s3.heap.objs.size fun _=>none:=by rw[<- Yq]; exact(Heap.Ns.new s3.heap (.type "dict")).keeps (pushCells_keeps _ _)
 have I4:Inv (pC X N' sc fp s3 H3) [] (List.replicate nt none++bQ js σ) H3 { s3 with heap:=h1,toks:=s3.toks }:=Bc I3 f3 lt3 S (fun {x c} e=>by
  have:=sy sc.names (s3.heap.push { cls:=.type "dict",data:=.dict #[] }) (qO sc X.env) x c (by rw[fQ]; exact e)
  rw[Yq,fQ] at this
  exact this) hns' hkp
 have st4:tn 0 h1:=T.keep 0 _ _ st3 fun b hb o ho=>hkp b o ho;have stat:∀{H':Hp},(∀b∈fp,H' b=none)->∀b∈fp,fD (pC X N' sc fp s3 H3) [] H' b:=fun hn b hb=>⟨hn b hb,dJ (lt3 b hb),I4.ok.N8 b hb,.inl hb,(I4.ok.exf b hb).2,fun p hp=>absurd (show p∈([]:List (Addr×Obj)) from hp) (by simp)⟩
 have out:∀{σ':St}{H':Hp}{s':AB},Inv (pC X N' sc fp s3 H3) [] σ' H' s'->Q (.ref s2.heap.objs.size) H'->compPost (model X.prog X.w) X.A X.xe use Qc (.ref s2.heap.objs.size) s3.heap.objs.size (.ok .next) s':=by
  intro σ' H' s' I' q';obtain⟨m,hn,_⟩:=id I'.loc;have I5:Inv X ae σ H' s':=I3.call' I'.os I'.base I'.hok I'.bare fun b hb=>⟨(f3 b hb).2.2.2.1,(f3 b hb).2.1,(f3 b hb).2.2.2.2.1,(f3 b hb).2.2.2.2.2⟩;exact fin _ _ H' s' I5 (I3.uh (bw _) I'.free) ⟨m,hn⟩ q'
 have loop:∀s4:AB,s4={ s3 with heap:=h1,toks:=s3.toks }->codeAny (model X.prog X.w) X.A (.compLoop (.DictComp kx vx [⟨tg,iter,[],0⟩] sc pos) 0 (.ref it) (.ref s2.heap.objs.size) (compEnvC sc (cellsFrom (s3.heap.objs.size+1) sc.names (qO sc X.env)) s3.heap.objs.size X.env))
   (compPost (model X.prog X.w) X.A X.xe use Qc (.ref s2.heap.objs.size) s3.heap.objs.size) s4:=by
  rintro s4 rfl;refine zR (fun n s'=>∃i ys H',Inv (pC X N' sc fp s3 H3) [] (List.replicate nt none++bQ js σ) H' s'/\tn i s'.heap/\(∀b∈fp,H' b=none)/\W i n ys H') ?_ m0 ⟨0,[],H3,I4,st4,fun b hb=>(f3 b hb).1,w0⟩;intro n s5 yL; refine kJ yL fun i ys H5 I5 Tv Yl w5=>?_; clear yL;rcases turn i n ys H5 w5 with⟨stop,qn⟩ | ⟨go,step⟩
  ·refine cz (T.done (pC X N' sc fp s3 H3) rfl rfl rfl hc i [] s5 _ H5 (fun _ _=>False) I5 (stat Yl) Tv stop) fun r s6 qx=>?_;obtain⟨hr,I6⟩:=qx;subst hr;exact out I6 qn
  ·refine cz (T.item (pC X N' sc fp s3 H3) rfl rfl rfl hc i [] s5 _ H5 (fun _ _=>False) I5 (stat Yl) Tv go) fun r s6 qx=>?_;obtain⟨u,hr,q6⟩:=qx;subst hr;refine cz q6 fun _ s7 qx=>?_;refine Gk qx fun y H7 I7 r7 y7 Tu Wg=>?_; clear qx;have I7':=I7.pinned (stat Wg) (T.obj _ _ Tu);refine cz (hgt fp s3 H3 _ s7 _ H7 y u _ I7' r7 (step y _ y7)) fun _ s8 qx=>?_;refine bG qx fun σ8 H8 I8 hsh q8=>?_; clear qx
   have wk:∀k v,(List.replicate nt none++bQ js σ)[k]?=some (some v)->σ8[k]?=some (some v):=fun k v e=>by
    by_cases hlt:k<nt
    ·rw[zj (by rw[pM]; exact hlt),Kw,bh hlt] at e
     cases e
    ·rw[vy (by rw[pM]; omega),pM,<- hsh.1,Gh] at e
     rw[show nt+(k-nt)=k by omega] at e
     exact e
   refine cz (hk fp s3 H3 _ s8 _ _ _ I8 q8) fun zk s9 qx=>?_;refine bG qx fun yk H9 I9 rk q9=>?_; clear qx;refine cz (hv fp s3 H3 _ s9 _ _ _ I9 q9) fun zv Ah qx=>?_;refine bG qx fun yv J0 ZC rv lC=>?_; clear qx; refine mL lC fun k ek ha LQ=>?_; clear lC; obtain⟨hz,m',hm,w10⟩:=LQ;subst ek;obtain⟨z,hd,vs,rel,dd⟩:=Li ZC.hok ha;have hz':vs.length<=sizeLine:=by rw[<- rel.length]; exact z
   have hl:(putK ys k yv).length<=sizeLine:=by have:=h_ ys k yv; omega
   refine wpAny_dictSet_pairs (hsz:=hz') (GP rk) dd fun h' Wn hs'=>?_;have he:∃q,h'.get? s2.heap.objs.size=some q:=let ⟨q,_,_,hq,_⟩:=Wn; ⟨q,hq⟩;have I11:=sr (t':=Ah.toks+1) ZC (by rw[ha]; exact True.intro) hs' he (JG hl hd (rel.put k rv) Wn)
   refine⟨m',hm,i+1,putK ys k yv,_,(I11.gZ).weak hsh.2.symm wk,T.keep _ _ _ Tu fun b hb o e=>(I11.pin (b,o) (iI _ (iI _ (cV hb e)))).1,fun b hb=>?_,w10⟩;obtain⟨o,e,d⟩:=T.obj _ _ Tu b hb;exact(I11.pin (b,o) (iI _ (iI _ (cV hb e)))).2.1
 exact codeAny_compStart_dict (loop _ rfl) (T.self X.A 0 _ _ _ st4 (loop _ rfl))
theorem QB{X:Cx}{kx vx iter:Expr}{tg:Expr}{g:TG}{nt:Nat}{y:Str}{py pos spos:Pos}{sc:Scope}{wi:TI}{tk tv:TE}{N':List Str}{js:List Nat}{i:Nat}(hN:X.N.Nodup)(hi':X.N[i]?=some y)(hy:Loc X.env.scope y)(hc:X.calm=true)(hi:PI X tg iter wi)(S:qU X nt N' js sc)
  (hgt:∀fp s H,PG (pC X N' sc fp s H) tg g) (hk:∀fp s H,PE (pC X N' sc fp s H) kx tk) (hv:∀fp s H,PE (pC X N' sc fp s H) vx tv) (hs:‹∀x,foldedSetIterable iter X.env x=pure x›) (hw: ~~~(swapsWith (.DictComp kx vx [⟨tg,iter,[],0⟩] sc pos) (some (.Name y py)) spos.line X.env=pure true))
  (hf: autoParam (X.fn y=true\/X.env.scope.names.lookup y=some .local) z_d._auto_1) :
  PS X (.Assign [.Name y py] (.DictComp kx vx [⟨tg,iter,[],0⟩] sc pos) spos) (qu (wM nt js wi g tk tv) (dh i)):=by
 symm;intro D I h;rw[exec_Assign_Name_used _ _ _ _ hw];refine aN (Cm (aN ?_));refine aN (yC hc hi S hgt hk hv hs I h fun acc C H' s' I5 fc ⟨m,hn⟩ q=>?_)
 have ho:∀b∈[C],∃o,s'.heap.get? b=some o/\∀v,o.data≠.cell v:=fun b hb=>by
  rw[fV.mp hb];obtain⟨o,es,n,e,ed,_⟩:=hn;exact⟨o,e,fun v z=>by rw[ed] at z; cases z⟩
 have I6:=I5.pinned (fp:=[C]) (fun b hb=>by rw[fV.mp hb]; exact fc) ho
 have hg:PG X (.Name y py) (dh i):=aC hN hi' hy hf;show wpAny _ _ (assign (.Name y py) X.env (.ref acc)) (fun _ s''=>∃m,s''.heap.Ns C m/\∀h',Heap.SameBut C s''.heap h'->_) _ s';refine cz (hg _ s' _ H' (.ref acc) (.ref acc) _ I6 rfl q) fun _ s7 qx=>?_;obtain⟨σ7,H7,I7,q7⟩:=qx
 have pc:∀o,s'.heap.get? C=some o->s7.heap.get? C=some o/\H7 C=none:=fun o e=>by
  have:=I7.pin (C,o) (iI _ (iI _ (cV (by simp) e)))
  exact⟨this.1,this.2.1⟩
 refine⟨m,hn.at fun o e=>(pc o e).1,fun h' sb=>bV (bV ⟨σ7,H7,?_,q7⟩)⟩
 have fr:H7 C=none:=by
  obtain⟨o,es,n,e,ed,_⟩:=hn;exact(pc o e).2
 exact I7.gZ.turned (it:=C) (t':=s7.toks) (fun b o hb e=>sb.extBut b o hb e) fr fc.2.1 fc.2.2.2.1 fc.2.2.2.2.1 fc.2.2.2.2.2
theorem xT{X:Cx}{kx vx iter tg:Expr}{g:TG}{nt:Nat}{pos:Pos}{sc:Scope}{wi:TI}{tk tv:TE}{N':List Str}{js:List Nat}(hc:X.calm=true)(hi:PI X tg iter wi)(S:qU X nt N' js sc)
  (hgt:∀fp s H,PG (pC X N' sc fp s H) tg g) (hk:∀fp s H,PE (pC X N' sc fp s H) kx tk) (hv:∀fp s H,PE (pC X N' sc fp s H) vx tv) (hs:‹∀x,foldedSetIterable iter X.env x=pure x›):PE X (.DictComp kx vx [⟨tg,iter,[],0⟩] sc pos) (wM nt js wi g tk tv):=by
 symm;intro Q I h;rw[arm_eval_DictComp];refine yC (use:=none) hc hi S hgt hk hv hs I h fun acc C H' s' I5 fc ⟨m,hn⟩ q=>?_;refine⟨m,hn,fun h' sb=>?_⟩;exact⟨.ref acc,H',I5.turned (it:=C) (t':=s'.toks) (fun b o hb q=>sb.extBut b o hb q) fc.1 fc.2.1 fc.2.2.2.1 fc.2.2.2.2.1 fc.2.2.2.2.2,rfl,q⟩
theorem Inv.freeze{X:Cx}{ae:List (Addr×Obj)}{σ:St}{H:Hp}{s:AB}{d:Addr}{kvs:List (Key×V)}(I:Inv X ae σ H s)(hd:H d=some (.dK kvs)) :
  ∃o es ep,s.heap.get? d=some o/\o.data=.dict es ep/\Inv X ae σ (upd H d (.ug o (.dK kvs))) s:=by
 obtain⟨z,y,vs,r,o,es,ep,e,c,hdt,rest⟩:=id (I.hok d _ hd);refine⟨o,es,ep,e,hdt,?_⟩;have:=sr (t':=s.toks) (h':=s.heap) (ob:=.ug o (.dK kvs)) I (by rw[hd]; exact True.intro) (Heap.SameBut.refl _ _) ⟨o,e⟩ ⟨e,z,y,vs,r,o,es,ep,e,c,hdt,rest⟩
 exact this
theorem Inv.ada{X:Cx}{ae:List (Addr×Obj)}{σ σ':St}{H H':Hp}{s s':AB}{d:Addr}{kvs:List (Key×V)}{o:Obj}(I:Inv X ae σ H s)(hd:H d=some (.dK kvs))(J:Inv X ae σ' H' s')(hf:H' d=some (.ug o (.dK kvs))) :
  Inv X ae σ' (upd H' d (.dK kvs)) s':=by
 have ne:∀b,H' b=none->b≠d:=fun b n z=>by rw[z,hf] at n; cases n
 refine⟨J.ok,J.os,J.bare,⟨J.base.keep,J.base.slot,fun b q e n x=>?_,J.base.there,fun b xs e=>?_,fun b q u e=>?_,fun b ps e=>?_⟩,J.loc,J.cell,?_,fun x c e=>?_,fun p hp=>?_,fun b u e=>?_,J.len⟩
 ·rw[aH (ne b (J.base.free b q e n x))];exact J.base.free b q e n x
 ·have:=J.base.tups b xs e;rw[aH (fun z=>by rw[z,hf] at this; cases this)]
  exact this
 ·have h1:=I.base.vN b q u e;rw[aH (fun z=>by rw[z,hd] at h1; cases h1)]
  exact J.base.vN b q u e
 ·obtain⟨m,h1⟩:=J.base.yP b ps e;refine⟨m,?_⟩;rw[aH (fun z=>by rw[z,hf] at h1; cases h1)]
  exact h1
 ·rw[aH (ne _ J.free)]; exact J.free
 ·rw[aH (ne _ (J.kZ x c e))]; exact J.kZ x c e
 ·obtain⟨h1,h2,h3⟩:=J.pin p hp;exact⟨h1,by rw[aH (ne _ h2)]; exact h2,h3⟩
 ·have own:∀c,H' c=some (.own b)->upd H' d (.dK kvs) c=some (.own b):=fun c q=>by rw[aH (fun z=>by rw[z,hf] at q; cases q)]; exact q
  have tup:∀c xs,H' c=some (.tup xs)->upd H' d (.dK kvs) c=some (.tup xs):=fun c xs q=>by rw[aH (fun z=>by rw[z,hf] at q; cases q)]; exact q
  by_cases z:b=d
  ·rw[z,aA] at e;cases e;rw[z];exact(show b_ _ _ _ _ _ _ from(show b_ X.prog X.w H' s'.heap d (.ug o (.dK kvs)) from J.hok d _ hf).2).stay (fun _ _ _ q=>q) (fun c q=>by rw[aH (fun z=>by rw[z,hf] at q; cases q)]; exact q) tup
  ·rw[aH z] at e;exact(J.hok b u e).stay (fun _ _ _ q=>q) own tup
def VH(t:TE):TE:=fun σ H Q=>t σ H fun v H'=>∃d kvs o,H d=some (.dK kvs)/\H' d=some (.ug o (.dK kvs))/\Q v (upd H' d (.dK kvs))
theorem Ue{X:Cx}{e:Expr}{t:TE}(h:PE X e t):PE X e (VH t):=by
 symm;intro Q I hq;refine cz (h ae s σ H _ I hq) fun u s1 qx=>?_;obtain⟨v,H1,I1,r,d,kvs,o,h1,h2,q⟩:=qx;exact⟨v,_,I.ada h1 I1 h2,r,q⟩
def ItV(d:Addr)(o:Obj)(kvs:List (Key×V)):It:=
 ⟨fun i H=>H d=some (.ug o (.dK kvs))/\i<kvs.length,fun i H x H'=>H'=H/\∃k,kvs[i]?=some (k,x),fun i H=>H d=some (.ug o (.dK kvs))/\kvs.length<=i⟩
theorem JC{X:Cx}{ae:List (Addr×Obj)}{σ:St}{H:Hp}{s:AB}{d:Addr}{kvs:List (Key×V)}{o:Obj}{es:Array DictEntry}{ep:Nat}(I:Inv X ae σ H s)(hd:H d=some (.ug o (.dK kvs)))(ho:o.data=.dict es ep) :
  ∃vs,KV kvs vs/\s.heap.DictAt (du X.prog X.w) d vs ep:=by
 obtain⟨e,z,y,vs,r,o',es',ep',e',c,hdt,rest⟩:=(show b_ X.prog X.w H s.heap d (.ug o (.dK kvs)) from I.hok d _ hd);rw[e] at e';cases e';rw[ho] at hdt;cases hdt;exact⟨vs,r,o,es,e,c,ho,rest⟩
theorem X4{kvs:List (Key×V)}{vs:List (Key×AA)}(r:KV kvs vs):∀{i:Nat}{k:Key}{x:V},kvs[i]?=some (k,x)->∃u,vs[i]?=some (k,u)/\RelV x u:=by
 induction r with
 | nil=>intro i k x h; cases h
 | @cons a b l1 l2 h1 h2 ih=>
  intro i k x h;cases i with
  | zero=>
   cases h;obtain⟨e1,e2⟩:=h1;exact⟨b.2,by rw[Kv]; congr 1; exact Prod.ext e1.symm rfl,e2⟩
  | succ i=>exact ih h
theorem Mt{P:AC}{w:World}{K:Frag}{tg:Expr}{d it:Addr}{o:Obj}{kvs:List (Key×V)}{es:Array DictEntry}{ep:Nat}(ho:o.data=.dict es ep):Turn P w K tg (ItV d o kvs) [it] it (fun i h=>h.IsValIter it d i kvs.length ep) where
 mem:=by simp
 obj:=fun i h st b hb=>by
  have e:b=it:=by simpa using hb
  subst e;obtain⟨o,e,c,d⟩:=st;exact⟨o,e,fun v z=>by rw[d] at z; cases z⟩
 keep:=fun i h h' st k=>st.at fun o e=>k it (by simp) o e
 item:=by
  intro X hP hw hK hc i ae s σ H E I hf st hg;subst hP hw hK;obtain⟨hd,hi⟩:=hg;obtain⟨vs,r,da⟩:=JC I hd ho;obtain⟨u,hu,ru⟩:=X4 r (i:=i) (k:=(kvs[i]).1) (x:=(kvs[i]).2) (cT hi);refine nZ (hf it (by simp)) fun f0 f1 f2 f3 f4 f5=>?_
  have st2:s.heap.IsValIter it d i vs.length ep:=by rw[<- r.length]; exact st
  refine wpAny_pyNext_values_item st2 da hu fun h' st' sb=>?_;have I1:Inv X ae σ H { s with heap:=h' }:=I.turned (t':=s.toks) (fun b o hb e=>(sb.2 b hb).trans e) f0 f1 f3 f4 f5
  obtain⟨o2,e2,c2,d2⟩:=id st';refine⟨u,rfl,Bf (s:={ s with heap:=h' }) e2 c2 d2 ⋯ ⟨(kvs[i]).2,H,I1,ru,⟨rfl,(kvs[i]).1,cT hi⟩,?_,fun b hb=>(hf b hb).1⟩⟩
  rw[r.length]; exact st'
 done:=by
  intro X hP hw hK hc i ae s σ H E I hf st hg;subst hP hw hK;obtain⟨hd,hi⟩:=hg;obtain⟨vs,r,da⟩:=JC I hd ho;obtain⟨f0,f1,f2,f3,f4,f5⟩:=hf it (by simp)
  have st2:s.heap.IsValIter it d i vs.length ep:=by rw[<- r.length]; exact st
  exact wpAny_pyNext_values_end (I.ok.hd hc) st2 da (List.getElem?_eq_none_iff.mpr (by rw[<- r.length]; exact hi)) fun h' eb=>⟨rfl,I.turned (t':=s.toks) (fun b o hb e=>eb b o hb e) f0 f1 f3 f4 f5⟩
 self:=fun _ _ _ _ _ st h=>wpAny_pyIter_valiter st h
def Wd(K:Frag)(to:TE):TI:=fun σ H R=>to σ H fun x H1=>∃d kvs,x=.ref d/\H1 d=some (.dK kvs)/\∀o,R (ItV d o kvs) (upd H1 d (.ug o (.dK kvs)))
theorem Uc{X:Cx}{K:Frag}{tg o:Expr}{to:TE}{apos cpos:Pos}(hK:X.K=K)(ho:PE X o to)(hbase: ~~~(attributeBase o "values" X.env (eval o X.env)=eval o X.env))(hline: ~~~((apos.endLine==cpos.line)=true)) :
  PI X tg (.Call (.Attribute o "values" apos) [] [] cpos) (Wd K to):=by
 symm;intro R I h;refine wpAny_Call_method0_late hbase hline (cz (ho ae s σ H _ I h) fun v s1 qx=>?_);obtain⟨x,H1,I1,r1,d,kvs,ex,hd,q⟩:=qx;subst ex;cases r1;obtain⟨hz,hsm,vs,rel,dd⟩:=Li I1.hok hd;have tyd:tyV X.K "dict" (.ref d) H1:=.inr (.inr (.inl ⟨rfl,.inl ⟨kvs,hd⟩⟩));obtain⟨h1,h2⟩:=Pj I1 (x:=.ref d) (v:=.ref d) rfl tyd;refine⟨"dict","dict.values",PySem.F.plainAttrs_dict,PySem.F.slot_dict_values,PySem.F.type_dict_values,h1,h2,Calls.callWith_builtin rfl (PySem.evalArgs_none ?_)⟩;refine call_meetsIn PySem.F.slot_dict_values dd.typeIs PySem.F.entry_dict_values (PySem.F.args_dict_values_1 _) (meets_dict_values (du X.prog X.w) d hsm) ⟨⟨vs,dd⟩,?_⟩;have I2:Inv X ae σ H1 { s1 with heap:=s1.heap.push { cls:=.type "dict_values",data:=.fields #[.ref d] } }:=I1.kept (t':=s1.toks) fun b u e=>fB _ e
 obtain⟨ob,es,ep,he,hdt,I3⟩:=I2.freeze hd;obtain⟨vs',r',da⟩:=JC I3 aA hdt;refine wpAny_pyIter_values (v:=s1.heap.objs.size) ⟨_,cO _ rfl,rfl,rfl⟩ da ?_;have hz2:(s1.heap.push { cls:=.type "dict_values",data:=.fields #[.ref d] }).objs.size=s1.heap.objs.size+1:=fQ ..;refine⟨_,[_],_,_,_,rfl,I3.kept (t':=s1.toks) fun b u e=>fB _ e,Mt hdt,?_,fun b hb=>?_,q ob⟩
 ·exact⟨_,cO _ rfl,rfl,by rw[r'.length]; rfl⟩
 ·have e:=fV.mp hb;subst e;exact I3.uh (bw _) (I3.hok.fresh (bw _))
def qR(l:List Str)(x:Str):List Str:=if l.any (· == x) then l else l++[x]
def lY(val:Nat->Str)(i:Nat):List Str:=((List.range i).map val).foldl qR []
theorem ue(val:Nat->Str)(i:Nat):lY val (i+1)=qR (lY val i) (val i):=by
 unfold lY; rw[List.range_succ,gJ,List.foldl_append]; rfl
theorem KZ(val:Nat->Str):∀i,(lY val i).length<=i
 | 0=>bw _
 | i+1=>by
  rw[ue]; unfold qR;have ih:=KZ val i;split
  ·omega
  ·rw[cC,List.length_singleton]; omega
theorem R3(l:List Str)(v k:Str):(qR l v).any (· == k)=(l.any (· == k) || decide (k=v)):=by
 unfold qR;by_cases h:l.any (· == v)=true
 ·rw[bh h];by_cases e:k=v
  ·subst e; rw[h]; simp
  ·simp[e]
 ·rw[aX h,List.any_append];by_cases e:k=v
  ·subst e; simp
  ·have hb:(v==k)=false:=by simpa[beq_iff_eq] using(fun h':v=k=>e h'.symm)
   simp[hb,e]
theorem Hq(l:List Str)(v:Str):(qR l v).length=if l.any (· == v) then l.length else l.length+1:=by
 unfold qR; split <;> simp
section
variable{prog:AC}{w:World}{A:Around}{R:Result->AB->Prop}{I:Addr}{fp wr:List Addr}{G:Array GenState->Array GenState->Prop}{n:Nat}{P:Nat->AA->Prop}{St:Nat->AB->Prop}
theorem MJ(W:WalksS prog w A.in1 I fp wr G n P St)(S:Addr)(hSf:S∉fp)
  (val:Nat->Str) (hval:∀i v,P i v->∃t,v=.str (val i) t) (hb:n+1<scanBound) :
  ∀(k i:Nat)(s:AB),n-i=k->i<=n->St i s ->
   s.heap.SetOf (strKind prog w) S (fun k'=>(lY val i).any (· == k')) (lY val i).length ->
   (∀s',Moved (S::wr) G s s'->s'.heap.SetOf (strKind prog w) S (fun k'=>(lY val n).any (· == k')) (lY val n).length->R (.ok (.ret .none)) s') ->
   codeAny (model prog w) A (.builtin "set.update.loop" ⟨[.ref S,.ref I],[]⟩) R s:=by
 have hSw:S∉wr:=fun h=>hSf (W.sub _ h);have hsub:∀b∈wr,b∈S::wr:=fun b hb=>cI _ hb;intro k
 induction k with
 | zero=>
  intro i s hk hi hst hS hR;have hin:i=n:=by omega
  subst hin;refine codeAny_builtin PyProof.Rows.F.entry_set_update_loop ?_;rw[Around.under_plainId PyProof.Rows.F.plain_set_update_loop _];show wpAny _ A.in1 (pyNext (.ref I) >>= _) _ _ s;refine aN (W.done s _ _ hst fun s' hm=>?_);show wpAny _ A.in1 (ret Value.none) _ _ s';refine bV (hR s' (hm.mono hsub) ?_);refine Qw hS fun o es ep t ho rest=>?_; clear hS;exact(uw o es ep t ⟨hm.heap S _ hSw ho,rest⟩)
 | succ k ih=>
  intro i s hk hi hst hS hR;have hlt:i<n:=by omega
  refine codeAny_builtin PyProof.Rows.F.entry_set_update_loop ?_;rw[Around.under_plainId PyProof.Rows.F.plain_set_update_loop _];show wpAny _ A.in1 (pyNext (.ref I) >>= _) _ _ s;refine aN (W.item i s _ _ hlt hst fun v s' hP hst' hm=>?_);obtain⟨t,rfl⟩:=hval i v hP
  have hS':s'.heap.SetOf (strKind prog w) S (fun k'=>(lY val i).any (· == k')) (lY val i).length:=by
   refine Qw hS fun o es ep tb ho rest=>?_; clear hS;exact(uw o es ep tb ⟨hm.heap S _ hSw ho,rest⟩)
  show wpAny _ A.in1 (holding [Value.str (val i) t] (setAdd S (.str (val i) t)) >>= _) _ _ s';refine aN (pJ ?_);unfold setAdd;refine pJ ?_;refine aN ((strKind prog w).pyHash (k:=val i) (strKind_is _ _ _ _) ?_);have hroom:(lY val i).length+1<scanBound:=by have:=KZ val i; omega
  refine wpAny_setAddHashed_of (knd:=strKind prog w) (s:={ s' with toks:=s'.toks+1 }) (strKind_is _ _ _ _) rfl hS' hroom fun h' hsb hS2=>?_
  have hSi:h'.SetOf (strKind prog w) S (fun k'=>(lY val (i+1)).any (· == k')) (lY val (i+1)).length:=
   SetOf_congr hS2 (fun k'=>by rw[ue,R3]) (by rw[ue,Hq])
  refine bV ⟨plainId_quiet PyProof.Rows.F.plain_set_update_loop _,ih (i+1) _ ∅ hlt (W.frame _ s' _ _ hst' (Al _) fun b hb o e=>?_) hSi fun s'' hm'' hS''=>?_⟩
  ·rw[hsb.2 b (fun h:b=S=>hSf (by rw[<- h]; exact hb))]; exact e
  ·refine hR s'' (Moved.trans W.gtrans ((hm.mono hsub).then_heap (Al _) fun b o hb e=>?_) hm'') hS'';rw[hsb.2 b (fun h:b=S=>hb (by rw[h]; exact dg))]; exact e
end
theorem J_:∀{ss:List Str}{us:List AA}{i:Nat}{v:AA},Vals (ss.map V.str) us->us[i]?=some v->∃t,v=.str (ss.getD i Str.empty) t
 | [],us,i,v,h,e=>by
  cases h;cases e
 | x::ss,us,i,v,h,e=>by
  cases h with
  | cons h1 h2=>
   cases i with
   | zero=>
    cases e;obtain⟨t,rfl⟩:=h1;exact⟨t,rfl⟩
   | succ i=>exact J_ (ss:=ss) h2 e
section
variable{prog:AC}{w:World}{A:Around}{E:AA->AB->Prop}{s:AB}
theorem Qh{l:Addr}{items:Array AA}{ss:List Str}{Q:AA->AB->Prop}
  (hh:A.handled=none) (hl:s.heap.IsList l items) (hi:Vals (ss.map V.str) items.toList) (hb:items.size+1<scanBound)
  (h:∀(h':Heap)(tk:Nat),h'.SetOf (strKind prog w) s.heap.objs.size (fun k'=>(lY (fun i=>ss.getD i Str.empty) items.size).any (· == k')) (lY (fun i=>ss.getD i Str.empty) items.size).length ->
   (∀b o,b<s.heap.objs.size->s.heap.get? b=some o->h'.get? b=some o)->Q (.ref s.heap.objs.size) { s with heap:=h',toks:=tk }) :
  wpAny (model prog w) A (call (.type "set") [.ref l]) Q E s:=by
 obtain⟨c,tl,hmro⟩:=PySem.F.called_set.mro;have hmade:=PySem.F.called_set.made;have hsub:=PySem.F.called_set.sub;refine wpAny_call (codeAny_of_tree ?_);show wpAny _ _ (callAny (.type "set") _) _ _ _;refine bV ⟨Code.quiet_builtin _ (by decide +kernel),codeAny_builtin PySem.F.entry_type_call ?_⟩
 rw[Around.under_plain (weight_type_call_type "set" [.ref l] []) rfl];have h1:=PySem.F.called_set.notType;have h2:=PySem.F.called_set.canCreate;have hct:=PySem.F.typeCall_set_1 (.ref l)
 repeat (any_goals (first | assumption | wp_step))
 refine codeAny_mono (code_set_new_1 (.ref l) (E:=E) (Q₁:=fun obj s₁=>∃led:Bool,obj=.ref s.heap.objs.size/\s₁={ s with heap:=s.heap.push { cls:=.type "set",dict:=none,data:=.set #[] 0 (.fresh 0 0 led) } }) fun led=>⟨led,rfl,rfl⟩) fun r s₁ hr=>?_
 cases r with
 | error e=>exact hr
 | ok fl=>
  cases fl with
  | ret obj=>
   refine xO hr fun led R_ cL=>?_; clear hr; subst R_; subst cL;have hS:(s.heap.push { cls:=.type "set",dict:=none,data:=.set #[] 0 (.fresh 0 0 led) }).get? s.heap.objs.size=some { cls:=.type "set",dict:=none,data:=.set #[] 0 (.fresh 0 0 led) }:=cO _ rfl;have hT:Shared.TypeIs { s with heap:=s.heap.push { cls:=.type "set",dict:=none,data:=.set #[] 0 (.fresh 0 0 led) } } (.ref s.heap.objs.size) "set" := ⟨_,hS,rfl⟩
   have hli:=PySem.F.called_set.init.lookup;have hbi:=PySem.F.called_set.init.bind (.ref s.heap.objs.size)
   repeat (any_goals (first | assumption | wp_step))
   refine codeAny_mono (codeAny_call_builtin (R:=wants (fun r s₂=>r=.none/\∃h' tk,s₂={ s with heap:=h',toks:=tk } /\
     h'.SetOf (strKind prog w) s.heap.objs.size (fun k'=>(lY (fun i=>ss.getD i Str.empty) items.size).any (· == k')) (lY (fun i=>ss.getD i Str.empty) items.size).length /\
     (∀b o,b<s.heap.objs.size->s.heap.get? b=some o->h'.get? b=some o)) E) PySem.F.called_set.init.plain PySem.F.entry_set_init (check_set_init_1 hT ?_)) fun r₂ s₂ hr₂=>?_
   ·refine mL hl fun ol hol hcl iQ=>?_; clear hl; obtain⟨nl,hdl⟩:=iQ;obtain⟨ocls,odict,odata,oslots⟩:=ol;simp only at hcl hdl;subst hcl; subst hdl;have hol':(s.heap.push { cls:=.type "set",dict:=none,data:=.set #[] 0 (.fresh 0 0 led) }).get? l=some { cls:=.type "list",dict:=odict,data:=.seq items nl,slots:=oslots }:=fB _ hol;have hsls:=PySem.F.sub_list_set;have hslf:=PySem.F.sub_list_frozenset;have hne:(Value.type "list" == Value.type "dict")=false:=by decide
    have hl1:(s.heap.push { cls:=.type "set",dict:=none,data:=.set #[] 0 (.fresh 0 0 led) }).IsList l items:=⟨_,hol',rfl,nl,rfl⟩;unfold Builtin.«set.__init__» noKeywords Builtin.Frozenset.updateFrom;generalize hPI:pyIter=PI
    wp_walk
    subst hPI;refine zf hl1 ?_;refine aN (wpAny_runValue ?_);have hlS:l<s.heap.objs.size:=bH hol;have hh3:A.in1.in1.in1.handled=none:=by simp[hh]
    have hneI:l≠(s.heap.push { cls:=.type "set",dict:=none,data:=.set #[] 0 (.fresh 0 0 led) }).objs.size:=by
     rw[fQ]; exact dJ (FP hlS)
    have hSf:s.heap.objs.size∉[(s.heap.push { cls:=.type "set",dict:=none,data:=.set #[] 0 (.fresh 0 0 led) }).objs.size,l]:=by
     rw[fQ]; simp only[bB,fV,dM,or_false,not_or];exact⟨dJ (FJ _),xu hlS⟩
    have hval:∀(i:Nat)(v:AA),items[i]?=some v->∃t,v=.str ((fun i=>ss.getD i Str.empty) i) t:=fun i v hv=>J_ hi (by rw[Array.getElem?_toList]; exact hv)
    refine MJ ((Walks.list hh3 _ l hneI items).toS) s.heap.objs.size
     hSf (fun i=>ss.getD i Str.empty) hval hb (items.size-0) 0 _ ∅ (gC _)
     ⟨⟨_,cO _ rfl,rfl,rfl⟩,(hl1.push _)⟩ ?hS0 ?hR
    case hS0=>
     have hget:((s.heap.push { cls:=.type "set",dict:=none,data:=.set #[] 0 (.fresh 0 0 led) }).push { cls:=.type "list_iterator",data:=.fields #[.ref l,.int 0 0] }).get? s.heap.objs.size
       = some { cls:=.type "set",dict:=none,data:=.set #[] 0 (.fresh 0 0 led) }:=fB _ hS
     exact PyProof.Rows.SetOf_congr ((PyProof.Rows.setObjOf_fresh (knd:=strKind prog w) led).setOf hget (by unfold scanBound; omega)) (fun _=>rfl) rfl
    case hR=>
     intro s' hm hS';obtain⟨h',g',d',tk',os'⟩:=s';have eg:g'=s.gens:=hm.gens;have ed:d'=s.drawn:=hm.drawn;have eo:os'=s.os:=hm.os;subst eg; subst ed; subst eo;show wpAny _ _ _ _ _ _;refine bV ?_;show wpAny _ _ (ret Value.none) _ _ _;refine bV ⟨rfl,jM h' tk' ⟨rfl,hS',fun b o hb e=>?_⟩⟩;have hb1:b≠s.heap.objs.size:=dJ hb
     have hb2:b≠(s.heap.push { cls:=.type "set",dict:=none,data:=.set #[] 0 (.fresh 0 0 led) }).objs.size:=by
      rw[fQ]; exact dJ (FP hb)
     exact hm.heap b o (by simp only[bB,fV,dM,or_false,not_or]; exact⟨hb1,hb2⟩) (fB _ (fB _ e))
   ·cases r₂ with
    | error e=>exact hr₂
    | ok fl₂=>
     cases fl₂ with
     | ret r=>
      obtain⟨LR,R_⟩:=hr₂; subst LR; refine bG R_ fun h' tk iQ hS' hk'=>?_; clear R_; subst iQ
      repeat (any_goals (first | assumption | wp_step))
      exact h _ _ hS' hk'
     | _=>exact hr₂.elim
  | _=>exact hr.elim
end
def YH(a:Addr)(n:Nat):HO:=.ext fun h=>∃o es ep t,h.get? a=some o/\o.ExactSet/\o.data=.set es ep t/\t.fits es.size=true/\es.size=n
def qN(ss:List Str):Nat:=(lY (fun i=>ss.getD i Str.empty) ss.length).length
theorem Bp{X:Cx}(hc:X.calm=true):dG X (.type "set") (fun vs H Q=>∃(l:Addr)(ss:List Str),vs=[.ref l]/\H l=some (.lst (ss.map V.str))/\ss.length<=1000/\∀p H',H p=none->aK H H'->H' p=some (YH p (qN ss))->Q (.ref p) H'):=by
 symm;intro vs us Q I r h;refine Gm h fun l ss cL hl hz q=>?_; clear h; subst cL;obtain⟨u,rfl,ru⟩:=r.one;cases ru;obtain⟨_,its,n,rv,e⟩:=I.hok l _ hl;have hn:=rv.length;rw[bN] at hn;refine Qh (ss:=ss) (items:=its.toArray) (I.ok.hd hc) ⟨_,e,rfl,_,rfl⟩ (by simpa using rv) (by rw[fC,<- hn]; unfold scanBound; omega) fun h' tk hS hk=>?_
 have hf:=I.hok.fresh (bw s.heap.objs.size);have hsz:its.toArray.size=ss.length:=by rw[fC,<- hn]
 rw[hsz] at hS;refine⟨.ref s.heap.objs.size,_,I.laid (a:=s.heap.objs.size) (o:=YH s.heap.objs.size (qN ss)) (t':=tk) (fun b o q=>hk b o (bH q) q) (bw _) ?_,rfl,q _ _ hf (aO hf _) aA⟩;refine aaA hS fun o es ep t h1 h2 h3 h4 h5 h6 h7 h8=>?_; clear hS;refine⟨(uw o es ep t ⟨h1,h2,h3,h7,h8⟩),⟨o,h1⟩,fun g1 g2 z k=>?_⟩;refine Qw z fun o' es' ep' t' a1 a2=>?_; clear z;exact(uw o' es' ep' t' ⟨k _ a1,a2⟩)
theorem Bq{X:Cx}:dG X (.builtin "len") (fun vs H Q=>∃(p:Addr)(n:Nat),vs=[.ref p]/\H p=some (YH p n)/\n<=1000/\Q (.int n) H):=by
 symm;intro vs us Q I r h;refine Gm h fun p n cL hp hn q=>?_; clear h; subst cL;obtain⟨u,rfl,ru⟩:=r.one;cases ru;obtain⟨o,es,ep,t,h1,h2,h3,h4,h5⟩:=(show ∃o es ep t,s.heap.get? p=some o/\o.ExactSet/\o.data=.set es ep t/\t.fits es.size=true/\es.size=n from(I.hok p _ hp).1);refine call_len_set h1 h2 h3 h4 (by rw[h5]; omega) ?_
 rw[h5];exact⟨.int n,H,I.tok _,⟨_,rfl⟩,q⟩
theorem Bh:∀(l acc:List Str),(l.foldl qR acc).length<=acc.length+l.length/\((l.foldl qR acc).length=acc.length+l.length↔l.Nodup/\∀x∈l,x∉acc)
 | [],acc=>⟨bw _,⟨fun _=>⟨List.nodup_nil,fun x h=>by cases h⟩,fun _=>rfl⟩⟩
 | y::l,acc=>by
  obtain⟨h1,h2⟩:=Bh l (qR acc y);have e:((y::l).foldl qR acc)=l.foldl qR (qR acc y):=rfl;rw[e,fU];have hl:=Hq acc y;by_cases c:acc.any (· == y)=true
  ·rw[bh c] at hl
   have hy:y∈acc:=by
    obtain⟨z,hz,ez⟩:=List.any_eq_true.mp c;rw[<- beq_iff_eq.mp ez]; exact hz
   refine⟨∅,⟨fun z=>by omega,fun z=>absurd hy (z.2 y dg)⟩⟩
  ·rw[aX c] at hl;have hy:y∉acc:=fun h=>c (List.any_eq_true.mpr ⟨y,h,beq_self_eq_true y⟩);have ea:qR acc y=acc++[y]:=aX c;refine⟨∅,⟨fun z=>?_,fun z=>?_⟩⟩
   ·obtain⟨n1,n2⟩:=h2.mp ∅
    rw[ea] at n2;refine⟨km.mpr ⟨fun hm=>n2 y hm (by simp),n1⟩,fun x hx=>?_⟩
    rcases bB.mp hx with w | w
    ·rw[w]; exact hy
    ·exact fun hm=>n2 x w (by simp[hm])
   ·obtain⟨n1,n2⟩:=z;obtain⟨m1,m2⟩:=km.mp n1
    have:=h2.mpr ⟨m2,fun x hx=>by
     rw[ea];intro hm;rcases d_.mp hm with w | w
     ·exact n2 x (cI _ hx) w
     ·rw[fV.mp w] at hx; exact m1 hx⟩
    omega
theorem ph(ss:List Str):qN ss<=ss.length/\(qN ss<ss.length↔¬ss.Nodup):=by
 have e:(List.range ss.length).map (fun i=>ss.getD i Str.empty)=ss:=by
  apply List.ext_getElem
  ·simp
  ·intro i h1 h2;simp[ig,h2]
 have d:qN ss=(ss.foldl qR []).length:=by unfold qN lY; rw[e]
 obtain⟨h1,h2⟩:=Bh ss [];rw[<- d] at h1 h2;simp only[mX,Nat.zero_add] at h1 h2;refine⟨h1,⟨fun z n=>?_,fun z=>?_⟩⟩
 ·have:=h2.mpr ⟨n,fun x _=>by simp⟩; omega
 ·rcases Nat.lt_or_ge (qN ss) ss.length with w | w
  ·exact w
  ·exact absurd (h2.mp ∅).1 z
section
variable{prog:AC}{w:World}{A:Around}{E:AA->AB->Prop}{s:AB}
end
structure acP(H:Hp)(xs:List V)(kvs:List (PyData×V)):Prop where
 n:xs.length=kvs.length
 p:∀(i:Nat)(x:V)(q:PyData×V),xs[i]?=some x->kvs[i]?=some q->∃t y,x=.ref t/\H t=some (.tup [y,q.2])/\abL H q.1 y
theorem oX:plainId "dict.update.loop" = true:=by decide +kernel
theorem Aa:entryFor table "dict.update.loop" = some Builtin.«dict.update.loop»:=entryFor_of_tree (by kernel_rfl)
section
variable{X:Cx}{ae:List (Addr×Obj)}{σ:St}
end
section
variable{X:Cx}
end
theorem pQ:typeLookup (.type "zip") "__getattr__" = pure none:=by rw[typeLookup_type,builtinLookup_eq_fast]; kernel_rfl
theorem jw:entryFor table "zip.__getattribute__" = some Builtin.«object.__getattribute__»:=
 entryFor_alias (id':="object.__getattribute__") (by kernel_rfl) (by decide +kernel) (by decide +kernel) (by kernel_rfl)
theorem QZ:typeLookup (.type "zip") "keys" = pure none:=by rw[typeLookup_type,builtinLookup_eq_fast]; kernel_rfl
theorem iJ(a:Addr)(xs:Array AA)(sl:Array (Option AA))(name:Str)(u:Tok)(hmiss:typeLookup (.type "zip") name=pure none)(hname:(["__module__","__name__","__qualname__","__doc__","__annotations__"]:List Str).contains name=false)(hsz:name.length+100<=sizeLine:=by size_fits) :
  Meets (Builtin.«object.__getattribute__» ⟨[.ref a,.str name u],[]⟩) (fun A R s=>s.heap.get? a=some { cls:=.type "zip",dict:=none,data:=.fields xs,slots:=sl }/\raisesAttr (.ref a) name A R s):=
 Meets.of_wp fun prog w A R s hs=>by
  obtain⟨hp,g,d,tk,os⟩:=s;obtain⟨hx,hs⟩:=hs;have hT:(⟨hp,g,d,tk,os⟩:AB).TypeIs (.ref a) "zip" := ⟨_,hx,rfl⟩;unfold Builtin.«object.__getattribute__»
  repeat (any_goals (first | assumption | wp_step))
  simp only[hname,tY,if_false]
  repeat (any_goals (first | assumption | wp_step))
  exact wpAny_raiseAttrError hs.1 hs.2 (attrMsg_fits (by decide +kernel) hsz)
section
variable{prog:AC}{w:World}{A:Around}{E:AA->AB->Prop}{s:AB}
theorem Jt{a:Addr}{xs:Array AA}{sl:Array (Option AA)}{Q:Option AA->AB->Prop}(hx:s.heap.get? a=some { cls:=.type "zip",dict:=none,data:=.fields xs,slots:=sl })(hA:A.handled=none)
  (h:∀h' tk,(∀b o,s.heap.get? b=some o->h'.get? b=some o)->Q none { s with heap:=h',toks:=tk }):wpAny (model prog w) A (getAttr? (.ref a) "keys") Q E s:=by
 obtain⟨hp,g,d,tk,os⟩:=s;have hT:∀tk',(⟨hp,g,d,tk',os⟩:AB).TypeIs (.ref a) "zip" := fun _=>⟨_,hx,rfl⟩;have f1:=sub_AttributeError;have f3:=F.slot_zip_getattribute.lookup;have f4:=F.slot_zip_getattribute.bind (.ref a);have f5:=pQ;unfold getAttr? getAttrBy? getAttrBy
 repeat (any_goals (first | assumption | exact hT _ | ((with_reducible show wpAny _ _ (call (Value.builtin "zip.__getattribute__") _ _) _ _ _); refine call_meets F.slot_zip_getattribute (hT _) jw (F.args_zip_getattribute_2 _ _) (iJ a xs sl "keys" _ QZ (by decide +kernel)) ⟨hx,hA,fun h' tk' e hx'=>?_⟩) | wp_step))
 refine aaD hx'.there fun t' u' he=>?_;show wpAny _ _ (getattributeRaised _ _ _ _ _ _ _) _ _ _;unfold getattributeRaised
 repeat (any_goals (first | assumption | wp_step))
 exact h _ _ fun b o e=>hx'.keeps b o e
end
abbrev zX(h:Heap)(z TI TO t:Addr)(b:Bool):Prop:=
 h.get? z=some { cls:=.type "zip",dict:=none,data:=.fields #[rawInt t,.bool b,.bool false,.ref TI,.ref TO],slots:=#[] }
section
variable{prog:AC}{w:World}{A:Around}{E:AA->AB->Prop}{s:AB}
theorem J5{z TI TO t:Addr}{b:Bool}{Q:Bool->AB->Prop}(hz:zX s.heap z TI TO t b)(ht:∃o,s.heap.get? t=some o)(q:∀h',zX h' z TI TO t true->Heap.SameBut z s.heap h'->Q false { s with heap:=h' }) :
  wpAny (model prog w) A (Builtin.SmallTypes.ownedTupleIsFree (.ref z)) Q E s:=by
 obtain⟨o,ho⟩:=ht;unfold Builtin.SmallTypes.ownedTupleIsFree;refine aN (fP hz rfl (x:=rawInt t) rfl ?_);show wpAny _ _ (loadIfAlive ((t:Int).toNat) >>= _) _ _ _;rw[xF];refine aN (PySem.W.kdx_alive ho ?_);simp only[Option.isNone_some,tY,if_false];refine aN (fP hz rfl (x:=.bool b) rfl ?_);cases b with
 | true=>
  rw[aX ⋯]
  exact bV (q s.heap hz (Heap.SameBut.refl _ _))
 | false=>
  rw[bh ⋯]
  refine aN (vq hz (by simp) fun hA zA sA=>?_)
  exact bV (q hA zA sA)
structure Zw(z i1 i2:Addr)(f1 f2:List Addr):Prop where
 a4:i1≠z
 a5:i2≠z
 b1:z∉f1
 b2:z∉f2
 b5:i1∉f2
 b6:i2∉f1
theorem S_{z TI TO t i1 i2:Addr}{f1 f2:List Addr}{n1 n2 k:Nat}{P1 P2:Nat->AA->Prop}{S1 S2:Nat->Heap->Prop}{b:Bool}{Q:AA->AB->Prop}(Z:Zw z i1 i2 f1 f2)(D1:Draws prog w A i1 f1 n1 P1 S1)(D2:Draws prog w A i2 f2 n2 P2 S2)
  (hz:zX s.heap z TI TO t b) (ht:∃o,s.heap.get? t=some o) (hi:IsPair s.heap TI (.ref i1) (.ref i2)) (s1:S1 k s.heap) (s2:S2 k s.heap) (k1:k<n1) (k2:k<n2)
  (q:∀x y h' tk,P1 k x->P2 k y->zX h' z TI TO t true->S1 (k+1) h'->S2 (k+1) h'->IsPair h' s.heap.objs.size x y->(∀c o,c≠z->c≠i1->c≠i2->s.heap.get? c=some o->h'.get? c=some o)->Q (.ref s.heap.objs.size) { s with heap:=h',toks:=tk }) :
  wpAny (model prog w) A (Builtin.«zip.__next__» ⟨[.ref z],[]⟩) (fun fin s'=>∃v,fin=.done (.ret v)/\Q v s') E s:=by
 show wpAny _ _ (field (.ref z) 2 >>= _) _ _ _; refine aN (fP hz rfl (x:=.bool false) rfl ?_);show wpAny _ _ (field (.ref z) 3 >>= _) _ _ _; refine aN (fP hz rfl (x:=.ref TI) rfl (aN (mW hi rfl ?_)));show wpAny _ _ (Builtin.SmallTypes.ownedTupleIsFree (.ref z) >>= _) _ _ _;refine aN (J5 hz ht fun hA zA sA=>?_);simp only[tY,if_false];refine aN ?_;rw[<- Array.forIn_toList];simp only[za,xN];refine aN (aN (pJ ?_)); show wpAny _ _ (Builtin.SmallTypes.nextOf (.ref i1) >>= _) _ _ _;refine aN (D1.item k _ _ _ k1 (D1.frame _ _ _ s1 (mV sA Z.b1)) fun x hB tB pB Zf sB=>bV ?_);have uB:S2 k hB:=D2.frame _ _ _ (D2.frame _ _ _ s2 (mV sA Z.b2)) (mV sB Z.b5);refine bV (aN (aN (pJ ?_))); show wpAny _ _ (Builtin.SmallTypes.nextOf (.ref i2) >>= _) _ _ _;refine aN (D2.item k _ _ _ k2 uB fun y hD tD pD std sD=>bV ?_);refine bV (bV (aN (wpAny_newTuple (hsz:=nY (aQ (by decide:2<=1000))) ?_)))
 have zD:zX hD z TI TO t true:=sD.extBut _ _ Z.a5.symm (sB.extBut _ _ Z.a4.symm zA);have size:hD.objs.size=s.heap.objs.size:=by rw[sD.1,sB.1,sA.1]
 have up:∀c o,hD.get? c=some o->(hD.push { cls:=.type "tuple",data:=.seq #[x,y] }).get? c=some o:=fun c o e=>fB _ e;have kB:∀c o,c≠z->c≠i1->c≠i2->s.heap.get? c=some o->hD.get? c=some o:=fun c o n1 n3 n4 e=>sD.extBut _ _ n4 (sB.extBut _ _ n3 (sA.extBut _ _ n1 e));have u1:S1 (k+1) hD:=D1.frame _ _ _ Zf (mV sD Z.b6);have tJ:(hD.push { cls:=.type "tuple",data:=.seq #[x,y] }).get? hD.objs.size=some { cls:=.type "tuple",data:=.seq #[x,y] }:=cO _ rfl;refine bV ⟨_,rfl,?_⟩;show Q (.ref hD.objs.size) _;rw[size] at tJ ⊢;exact q x y _ tD pB pD (up _ _ zD) (D1.frame _ _ _ u1 fun c hc o e=>up c o e) (D2.frame _ _ _ std fun c hc o e=>up c o e) tJ fun c o n1 n3 n4 e=>up c o (kB c o n1 n3 n4 e)
theorem O8{z TI TO t i1 i2:Addr}{f1 f2:List Addr}{n1 n2:Nat}{P1 P2:Nat->AA->Prop}{S1 S2:Nat->Heap->Prop}{b:Bool}{Q:Fin->AB->Prop}(Z:Zw z i1 i2 f1 f2)(D1:Draws prog w A i1 f1 n1 P1 S1)(D2:Draws prog w A i2 f2 n2 P2 S2)
  (hz:zX s.heap z TI TO t b) (ht:∃o,s.heap.get? t=some o) (hi:IsPair s.heap TI (.ref i1) (.ref i2)) (s1:S1 n1 s.heap)
  (q:∀h' e,(∀c o,c≠z->c≠i1->c≠i2->s.heap.get? c=some o->h'.get? c=some o)->(∃o,h'.get? e=some o/\o.cls=.type "StopIteration")->∀tk,E (.ref e) { s with heap:=h',toks:=tk }) :
  wpAny (model prog w) A (Builtin.«zip.__next__» ⟨[.ref z],[]⟩) Q E s:=by
 show wpAny _ _ (field (.ref z) 2 >>= _) _ _ _; refine aN (fP hz rfl (x:=.bool false) rfl ?_);show wpAny _ _ (field (.ref z) 3 >>= _) _ _ _; refine aN (fP hz rfl (x:=.ref TI) rfl (aN (mW hi rfl ?_)));show wpAny _ _ (Builtin.SmallTypes.ownedTupleIsFree (.ref z) >>= _) _ _ _;refine aN (J5 hz ht fun hA zA sA=>?_);simp only[tY,if_false];refine aN ?_;rw[<- Array.forIn_toList];simp only[za,xN];refine aN (aN (pJ ?_)); show wpAny _ _ (Builtin.SmallTypes.nextOf (.ref i1) >>= _) _ _ _;refine aN (D1.done _ _ _ (D1.frame _ _ _ s1 (mV sA Z.b1)) fun hB x sB hx=>?_);exact q hB x (fun c o m1 m3 _ e=>sB _ _ m3 (sA.extBut _ _ m1 e)) hx _
theorem Z6{z TI TO t i1 i2:Addr}{f1 f2:List Addr}{n1 n2 k:Nat}{P1 P2:Nat->AA->Prop}{S1 S2:Nat->Heap->Prop}{b:Bool}{Q:Option AA->AB->Prop}(Z:Zw z i1 i2 f1 f2)(D1:Draws prog w A.in1 i1 f1 n1 P1 S1)(D2:Draws prog w A.in1 i2 f2 n2 P2 S2)
  (hz:zX s.heap z TI TO t b) (ht:∃o,s.heap.get? t=some o) (hi:IsPair s.heap TI (.ref i1) (.ref i2)) (s1:S1 k s.heap) (s2:S2 k s.heap) (k1:k<n1) (k2:k<n2)
  (q:∀x y h' tk,P1 k x->P2 k y->zX h' z TI TO t true->S1 (k+1) h'->S2 (k+1) h'->IsPair h' s.heap.objs.size x y->(∀c o,c≠z->c≠i1->c≠i2->s.heap.get? c=some o->h'.get? c=some o)->Q (some (.ref s.heap.objs.size)) { s with heap:=h',toks:=tk }) :
  wpAny (model prog w) A (pyNext (.ref z)) Q E s:=by
 have ty:s.TypeIs (.ref z) "zip" := ⟨_,hz,rfl⟩;unfold pyNext;refine aN (Am (FT (name:=Str.ofString "__next__") ty F.slot_zip_next (zb F.slot_zip_next ty F.entry_zip_next ?_ (F.args_zip_next_1 _))));exact S_ Z D1 D2 hz ht hi s1 s2 k1 k2 fun x y h' tk p1 p2 v1 v2 v3 v4 v5=>bV (q x y h' tk p1 p2 v1 v2 v3 v4 v5)
theorem WT{z TI TO t i1 i2:Addr}{f1 f2:List Addr}{n1 n2:Nat}{P1 P2:Nat->AA->Prop}{S1 S2:Nat->Heap->Prop}{b:Bool}{Q:Option AA->AB->Prop}(Z:Zw z i1 i2 f1 f2)(D1:Draws prog w A.in1 i1 f1 n1 P1 S1)(D2:Draws prog w A.in1 i2 f2 n2 P2 S2)
  (hz:zX s.heap z TI TO t b) (ht:∃o,s.heap.get? t=some o) (hi:IsPair s.heap TI (.ref i1) (.ref i2)) (s1:S1 n1 s.heap)
  (q:∀h' tk,(∀c o,c≠z->c≠i1->c≠i2->s.heap.get? c=some o->h'.get? c=some o)->Q none { s with heap:=h',toks:=tk }):wpAny (model prog w) A (pyNext (.ref z)) Q E s:=by
 have ty:s.TypeIs (.ref z) "zip" := ⟨_,hz,rfl⟩;unfold pyNext;refine aN (Am (FT (name:=Str.ofString "__next__") ty F.slot_zip_next (zb F.slot_zip_next ty F.entry_zip_next ?_ (F.args_zip_next_1 _))));refine O8 Z D1 D2 hz ht hi s1 fun h' e k hx tk=>?_;obtain⟨o,g,c⟩:=hx;exact aN (wpAny_isInstance (T:="StopIteration") (b:=true) ⟨o,g,c⟩ isSubtype_stop (bV (q _ tk k)))
end
def je(acc:List (Key×V))(kvs:List (Key×V)):List (Key×V):=kvs.foldl (fun a p=>putK a p.1 p.2) acc
structure ZS(z TI TO i1 i2 a b:Addr)(i:Nat)(h:Heap):Prop where
 st:(IsZip h z TI TO .none/\∃x y,IsPair h TO x y)\/∃t fl,zX h z TI TO t fl/\(∃o,h.get? t=some o)/\t≠z/\t≠i1/\t≠i2
 p:IsPair h TI (.ref i1) (.ref i2)
 l:h.IsListIter i1 a i
 r:h.IsListIter i2 b i
structure Zn(z TI TO i1 i2:Addr):Prop where
 n1:TI≠z
 n2:TO≠z
 n3:TI≠TO
 n4:i1≠z
 n5:i2≠z
 n6:TO≠i1
 n7:TO≠i2
 n8:i1≠i2
 n9:TI≠i1
 n10:TI≠i2
section
variable{X:Cx}{ae:List (Addr×Obj)}{σ:St}{z TI TO i1 i2 a b:Addr}
theorem ZS.keep{i:Nat}{h h':Heap}(S:ZS z TI TO i1 i2 a b i h)(k:∀c o,h.get? c=some o->h'.get? c=some o):ZS z TI TO i1 i2 a b i h':=by
 obtain⟨st,p,l,r⟩:=S;refine⟨?_,k _ _ p,l.at fun o e=>k _ _ e,r.at fun o e=>k _ _ e⟩;rcases st with⟨g,x,y,e⟩ | ⟨t,fl,g,⟨o,e⟩,n⟩
 ·exact .inl ⟨k _ _ g,x,y,k _ _ e⟩
 ·exact .inr ⟨t,fl,k _ _ g,⟨o,k _ _ e⟩,n⟩
theorem SQ{H:Hp}{s:AB}{A:Around}{E:AA->AB->Prop}{xs ys:List V}{i:Nat}{x y:V}{Q:Option AA->AB->Prop}(N:Zn z TI TO i1 i2)(I:Inv X ae σ H s)(hh:A.handled=none)(ha:H a=some (.lst xs))(hb:H b=some (.lst ys))(S:ZS z TI TO i1 i2 a b i s.heap)
  (hf:∀c∈[z,TI,TO,i1,i2],fD X ae H c) (hx:xs[i]?=some x) (hy:ys[i]?=some y)
  (q:∀t u v s1,RelV x u->RelV y v->Inv X ae σ H s1->IsPair s1.heap t u v->ZS z TI TO i1 i2 a b (i+1) s1.heap->Q (some (.ref t)) s1):wpAny (model X.prog X.w) A (pyNext (.ref z)) Q E s:=by
 obtain⟨us,ru,pu⟩:=kL.inv I (bT.of ha);obtain⟨vs,rv,pv⟩:=kL.inv I (bT.of hb);obtain⟨u,hu,Zh⟩:=ru.get hx;obtain⟨v,hv,rv'⟩:=rv.get hy;have na:∀c∈[z,TI,TO,i1,i2],a≠c:=fun c hc=>kL.ne I (bT.of ha) (hf c hc);have nb:∀c∈[z,TI,TO,i1,i2],b≠c:=fun c hc=>kL.ne I (bT.of hb) (hf c hc);have hh1:A.in1.handled=none:=hh;have l1:i<us.toArray.size:=by have:=(jF.mp hu).1; simpa using this
 have l2:i<vs.toArray.size:=by have:=(jF.mp hv).1; simpa using this
 have eu:∀{u':AA},us.toArray[i]?=some u'->u'=u:=fun {u'} hu'=>by
  have:us[i]?=some u':=by simpa using hu'
  rw[hu] at this; exact(Option.some.inj this).symm
 have ev:∀{u':AA},vs.toArray[i]?=some u'->u'=v:=fun {u'} hu'=>by
  have:vs[i]?=some u':=by simpa using hu'
  rw[hv] at this; exact(Option.some.inj this).symm
 obtain⟨st,p,l,r⟩:=S;have fk:∀c∈[z,TO,i1,i2],fD X ae H c:=fun c hc=>hf c (by simp only[bB,dM,or_false] at hc ⊢; rcases hc with h | h | h | h <;> simp[h])
 rcases st with⟨g,xo,yo,e⟩ | ⟨t,fl,g,e,nt⟩
 ·have Z:Ws z TI TO i1 i2 [i1,a] [i2,b]:=⟨N.n1,N.n2,N.n3,N.n4,N.n5,N.n6,N.n7,N.n8,by simp; exact⟨N.n4.symm,(na z (by simp)).symm⟩,by simp; exact⟨N.n5.symm,(nb z (by simp)).symm⟩,by simp; exact⟨N.n6,(na TO (by simp)).symm⟩,by simp; exact⟨N.n7,(nb TO (by simp)).symm⟩,by simp; exact⟨N.n8,(nb i1 (by simp)).symm⟩,by simp; exact⟨N.n8.symm,(na i2 (by simp)).symm⟩⟩
  have lz:z<s.heap.objs.size:=bH g;have li1:i1<s.heap.objs.size:=by obtain⟨o,e,_⟩:=l; exact bH e
  have li2:i2<s.heap.objs.size:=by obtain⟨o,e,_⟩:=r; exact bH e
  refine O3 Z (kL.dr hh1 (na i1 (by simp)) us.toArray) (kL.dr hh1 (nb i2 (by simp)) vs.toArray) g p e (show _/\_ from⟨l,pu⟩) (show _/\_ from⟨r,pv⟩) l1 l2 fun u' v' h' tk hu' hv' z1 z2 z3 z4 z5 z6 kk=>?_
  cases eu hu';cases ev hv';have I1:Inv X ae σ H { s with heap:=h',toks:=tk }:=I.gR (fp:=[z,TO,i1,i2]) (fun c o hc q=>kk c o (fun w=>hc (by simp[w])) (fun w=>hc (by simp[w])) (fun w=>hc (by simp[w])) (fun w=>hc (by simp[w])) q) fk
  exact q _ _ _ _ Zh rv' I1 z5 ⟨.inr ⟨_,false,z1,⟨_,z5⟩,xu lz,xu li1,xu li2⟩,kk _ _ N.n1 N.n3 N.n9 N.n10 p,z3.1,z4.1⟩
 ·have Z:Zw z i1 i2 [i1,a] [i2,b]:=⟨N.n4,N.n5,by simp; exact⟨N.n4.symm,(na z (by simp)).symm⟩,by simp; exact⟨N.n5.symm,(nb z (by simp)).symm⟩,by simp; exact⟨N.n8,(nb i1 (by simp)).symm⟩,by simp; exact⟨N.n8.symm,(na i2 (by simp)).symm⟩⟩
  refine Z6 Z (kL.dr hh1 (na i1 (by simp)) us.toArray) (kL.dr hh1 (nb i2 (by simp)) vs.toArray) g e p (show _/\_ from⟨l,pu⟩) (show _/\_ from⟨r,pv⟩) l1 l2 fun u' v' h' tk hu' hv' z1 z3 z4 z5 kk=>?_
  cases eu hu';cases ev hv';have I1:Inv X ae σ H { s with heap:=h',toks:=tk }:=I.gR (fp:=[z,TO,i1,i2]) (fun c o hc q=>kk c o (fun w=>hc (by simp[w])) (fun w=>hc (by simp[w])) (fun w=>hc (by simp[w])) q) fk
  obtain⟨ot,et⟩:=e;exact q _ _ _ _ Zh rv' I1 z5 ⟨.inr ⟨t,true,z1,⟨ot,kk _ _ nt.1 nt.2.1 nt.2.2 et⟩,nt⟩,kk _ _ N.n1 N.n9 N.n10 p,z3.1,z4.1⟩
theorem S5{H:Hp}{s:AB}{A:Around}{E:AA->AB->Prop}{xs ys:List V}{Q:Option AA->AB->Prop}(N:Zn z TI TO i1 i2)(I:Inv X ae σ H s)(hh:A.handled=none)(ha:H a=some (.lst xs))(hb:H b=some (.lst ys))(S:ZS z TI TO i1 i2 a b xs.length s.heap)
  (hf:∀c∈[z,TI,TO,i1,i2],fD X ae H c)
  (q:∀s1,Inv X ae σ H s1->Q none s1):wpAny (model X.prog X.w) A (pyNext (.ref z)) Q E s:=by
 obtain⟨us,ru,pu⟩:=kL.inv I (bT.of ha);obtain⟨vs,rv,pv⟩:=kL.inv I (bT.of hb);have na:∀c∈[z,TI,TO,i1,i2],a≠c:=fun c hc=>kL.ne I (bT.of ha) (hf c hc);have nb:∀c∈[z,TI,TO,i1,i2],b≠c:=fun c hc=>kL.ne I (bT.of hb) (hf c hc);have hh1:A.in1.handled=none:=hh;have el:xs.length=us.toArray.size:=by rw[ru.length,fC]
 obtain⟨st,p,l,r⟩:=S;have fk:∀c∈[z,TO,i1,i2],fD X ae H c:=fun c hc=>hf c (by simp only[bB,dM,or_false] at hc ⊢; rcases hc with h | h | h | h <;> simp[h])
 rcases st with⟨g,xo,yo,e⟩ | ⟨t,fl,g,e,nt⟩
 ·have Z:Ws z TI TO i1 i2 [i1,a] [i2,b]:=⟨N.n1,N.n2,N.n3,N.n4,N.n5,N.n6,N.n7,N.n8,by simp; exact⟨N.n4.symm,(na z (by simp)).symm⟩,by simp; exact⟨N.n5.symm,(nb z (by simp)).symm⟩,by simp; exact⟨N.n6,(na TO (by simp)).symm⟩,by simp; exact⟨N.n7,(nb TO (by simp)).symm⟩,by simp; exact⟨N.n8,(nb i1 (by simp)).symm⟩,by simp; exact⟨N.n8.symm,(na i2 (by simp)).symm⟩⟩
  refine J4 Z (kL.dr hh1 (na i1 (by simp)) us.toArray) (kL.dr hh1 (nb i2 (by simp)) vs.toArray) g p e (show _/\_ from⟨l,pu⟩) (show _/\_ from⟨r,pv⟩) (.inl el) fun h' tk kk=>q _ ?_
  exact I.gR (fp:=[z,TO,i1,i2]) (fun c o hc q=>kk c o (fun w=>hc (by simp[w])) (fun w=>hc (by simp[w])) (fun w=>hc (by simp[w])) (fun w=>hc (by simp[w])) q) fk
 ·have Z:Zw z i1 i2 [i1,a] [i2,b]:=⟨N.n4,N.n5,by simp; exact⟨N.n4.symm,(na z (by simp)).symm⟩,by simp; exact⟨N.n5.symm,(nb z (by simp)).symm⟩,by simp; exact⟨N.n8,(nb i1 (by simp)).symm⟩,by simp; exact⟨N.n8.symm,(na i2 (by simp)).symm⟩⟩
  refine WT Z (kL.dr hh1 (na i1 (by simp)) us.toArray) (kL.dr hh1 (nb i2 (by simp)) vs.toArray) g e p (show _/\_ from⟨by rw[<- el]; exact l,pu⟩) fun h' tk kk=>q _ ?_
  exact I.gR (fp:=[z,TO,i1,i2]) (fun c o hc q=>kk c o (fun w=>hc (by simp[w])) (fun w=>hc (by simp[w])) (fun w=>hc (by simp[w])) q) fk
end
section
variable{X:Cx}{ae:List (Addr×Obj)}{σ:St}{z TI TO i1 i2 a b p:Addr}{ks:List Key}{ys:List V}
theorem Lz(N:Zn z TI TO i1 i2)(hn:ks.length=ys.length)(hz:ks.length<=1000):∀(k i:Nat)(H:Hp)(s:AB)(A:Around)(acc:List (Key×V))(R:Result->AB->Prop),ks.length-i=k->i<=ks.length->A.handled=none->Inv X ae σ H s->H p=some (.dK acc)->acc.length<=i ->
  H a=some (.lst (ks.map kV))->H b=some (.lst ys)->ZS z TI TO i1 i2 a b i s.heap->(∀c∈[z,TI,TO,i1,i2],fD X ae H c) ->
  (∀s',Inv X ae σ (upd H p (.dK (je acc ((ks.zip ys).drop i)))) s'->R (.ok (.ret .none)) s') ->
  wpAny (model X.prog X.w) A.in1 (Builtin.«dict.update.loop» ⟨[.ref p,.ref z,rawInt i,.none],[]⟩) (fun fin s'=>match fin with | .done f=>R (.ok f) s' | .again c'=>c'.quiet=true/\codeAny (model X.prog X.w) A c' R s') (fun e s'=>R (.error e) s') s:=by
 intro k
 induction k with
 | zero=>
  intro i H s A acc R hk hi hh I hp hacc ha hb S fp q;have ei:i=ks.length:=by omega
  unfold Builtin.«dict.update.loop»;refine aN (S5 N I hh ha hb (by rw[bN,<- ei]; exact S) fp fun s1 I1=>?_)
  dsimp only;unfold Builtin.Dict.addKeywords
  wp_walk
  refine q s1 ?_;have e:(ks.zip ys).drop i=[]:=List.drop_eq_nil_of_le (by rw[Gb]; omega)
  rw[e]
  have eH:upd H p (.dK (je acc []))=H:=by
   funext c
   by_cases w:c=p
   ·rw[w,aA,hp]; rfl
   ·rw[aH w]
  rw[eH];exact I1
 | succ k ih=>
  intro i H s A acc R hk hi hh I hp hacc ha hb S fp q;have hik:i<ks.length:=by omega
  have hiy:i<ys.length:=by omega
  have hd:(ks.zip ys).drop i=(ks[i],ys[i])::(ks.zip ys).drop (i+1):=by
   rw[M5 (by rw[Gb]; omega),List.getElem_zip]
  unfold Builtin.«dict.update.loop»;refine aN (SQ N I hh ha hb S fp (x:=kV ks[i]) (y:=ys[i]) (by rw[cA,cT hik]; rfl) (cT hiy) fun t u v s1 ru rv I1 e1 S1=>?_)
  dsimp only;have hT:s1.TypeIs (.ref t) "tuple" := ⟨_,e1,rfl⟩;refine aN (pJ ?_);unfold Builtin.Dict.pairItems;refine aN (An (aN (FZ hT ?_)));rw[bh ⋯]
  refine aN (mW e1 rfl (bV ?_));refine Qy (Li I1.hok hp) fun zz hsm cL=>?_; refine xO cL fun ws rel dd=>?_; clear cL;have hz':ws.length<=sizeLine:=by rw[<- rel.length]; exact zz
  have hl:(putK acc ks[i] ys[i]).length<=sizeLine:=by have h1:=h_ acc ks[i] ys[i]; have h2:=aQ (n:=acc.length+1) ∅; omega
  refine pJ (wpAny_dictSet_pairs (hsz:=hz') (GP ru) dd fun h2 dd2 hs=>?_);have he:∃q,h2.get? p=some q:=let ⟨q,_,_,hq,_⟩:=dd2; ⟨q,hq⟩;have I2:=sr (t':=s1.toks+1) I1 (by rw[hp]; exact True.intro) hs he (JG hl hsm (rel.put ks[i] rv) dd2)
  have npH:∀c,H c=none->c≠p:=fun c hc w=>by rw[w,hp] at hc; cases hc
  have nl:∀c zs,H c=some (.lst zs)->c≠p:=fun c zs hc w=>by rw[w,hp] at hc; cases hc
  refine bV ⟨plainId_quiet oX _,codeAny_builtin Aa ?_⟩;rw[Around.under_plainId oX _];refine ih (i+1) _ _ A (putK acc ks[i] ys[i]) R ∅ ∅ hh I2 aA (by have:=h_ acc ks[i] ys[i]; omega) (by rw[aH (nl _ _ ha)]; exact ha) (by rw[aH (nl _ _ hb)]; exact hb) ?_ (fun c hc=>⟨by rw[aH (npH c (fp c hc).1)]; exact(fp c hc).1,(fp c hc).2⟩) fun s' J=>?_
  ·have kc:∀c o,c∈[z,TI,TO,i1,i2]->s1.heap.get? c=some o->h2.get? c=some o:=fun c o hc e=>(hs.2 c (npH c (fp c hc).1)).trans e;obtain⟨st,p',l,r⟩:=S1;refine⟨?_,kc _ _ (by simp) p',l.at fun o e=>kc _ _ (by simp) e,r.at fun o e=>kc _ _ (by simp) e⟩
   rcases st with⟨g,x,y,e⟩ | ⟨t',fl,g,⟨o,e⟩,n⟩
   ·exact .inl ⟨kc _ _ (by simp) g,x,y,kc _ _ (by simp) e⟩
   ·refine .inr ⟨t',fl,kc _ _ (by simp) g,?_,n⟩
    by_cases w:t'=p
    ·rw[w]; exact he
    ·exact⟨o,(hs.2 t' w).trans e⟩
  ·rw[hd] at q;refine q s' ?_;have eH:upd (upd H p (.dK (putK acc ks[i] ys[i]))) p (.dK (je (putK acc ks[i] ys[i]) ((ks.zip ys).drop (i+1))))=upd H p (.dK (je acc ((ks[i],ys[i])::(ks.zip ys).drop (i+1)))):=J7;rw[<- eH];exact J
end
section
variable{X:Cx}
def iT(ta:TA):TE:=fun σ H Q=>ta σ H fun vs H1=>∃(a b:Addr)(ks:List Key)(ys:List V),vs=[.ref a,.ref b]/\H1 a=some (.lst (ks.map kV))/\H1 b=some (.lst ys)/\ks.length=ys.length/\ks.length<=1000/\∀p H',H1 p=none->aK H1 H'->H' p=some (.dK (je [] (ks.zip ys)))->Q (.ref p) H'
theorem Jc{e e':Expr}{p p2 pos pos2:Pos}{ta:TA}(hc:X.calm=true)(hm:X.mg "dict" = none)(hm2:X.mg "zip" = none)(ha:PA X [e,e'] ta)(hg: ~~~(Gl X "dict"))(hg2: ~~~(Gl X "zip"))(h1: ~~~(bO e=true))(h2: ~~~(bO e'=true))
  (h3: ~~~(bO (.Call (.Name "zip" p2) [e,e'] [] pos2)=true)) :
  PE X (.Call (.Name "dict" p) [.Call (.Name "zip" p2) [e,e'] [] pos2] [] pos) (iT ta):=by
 symm;intro Q I h;refine vm (iw I hg hm Vo ?_ ⋯ ⋯)
 refine PyProof.Rows.callWith_type1 ?_ (bW h3) rfl;rw[bW h3];show wpAny _ _ (spliced ((false,eval (.Call (.Name "zip" p2) [e,e'] [] pos2) X.env)::backTo pos (starEach [] X.env))) _ _ s;refine Calls.spliced_cons ?_;refine vm (iw I hg2 hm2 JQ ?_ ⋯ ⋯)
 refine PyProof.Rows.callWith_type1 (cz (ha pos2 ae s σ H _ I h) fun us s1 qx=>?_) (bW h1) (b8 (es:=[e']) (by simp[h2]))
 refine bG qx fun vs H1 I1 r1 lC=>?_; clear qx; refine aaB lC fun a b ks ys Ef hla hlb hn hz q=>?_; clear lC; subst Ef;refine bG r1.two fun u v cL ru rv=>?_; subst cL;cases ru;cases rv;refine mL (I1.list (bT.of hla)) fun us _ pu _=>?_;refine mL (I1.list (bT.of hlb)) fun ws _ pw _=>?_;refine Bo pu.isList pw.isList fun h' hzz hp ho l1 l2 kk=>?_;have I2:Inv X ae σ H1 { s1 with heap:=h' }:=I1.kept (t':=s1.toks) kk
 have fr:∀n,H1 (s1.heap.objs.size+n)=none:=fun n=>I1.hok.fresh (Ar _ _);have fk:∀n,fD X ae H1 (s1.heap.objs.size+n):=fun n=>I1.uh (Ar _ _) (fr n);have ne:∀i j:Nat,i≠j->s1.heap.objs.size+i≠s1.heap.objs.size+j:=fun i j n e=>n (Nat.add_left_cancel e);have N:Zn (s1.heap.objs.size+4) (s1.heap.objs.size+2) (s1.heap.objs.size+3) s1.heap.objs.size (s1.heap.objs.size+1):=⟨ne _ _ ⋯,ne _ _ ⋯,ne _ _ ⋯,ne 0 _ ⋯,ne _ _ ⋯,ne _ 0 ⋯,ne _ _ ⋯,ne 0 _ ⋯,ne _ 0 ⋯,ne _ _ ⋯⟩
 have S0:ZS (s1.heap.objs.size+4) (s1.heap.objs.size+2) (s1.heap.objs.size+3) s1.heap.objs.size (s1.heap.objs.size+1) a b 0 h':=⟨.inl ⟨hzz,_,_,ho⟩,hp,l1,l2⟩
 have fp:∀c∈[s1.heap.objs.size+4,s1.heap.objs.size+2,s1.heap.objs.size+3,s1.heap.objs.size,s1.heap.objs.size+1],fD X ae H1 c:=fun c hc=>by
  simp only[bB,dM,or_false] at hc;rcases hc with rfl | rfl | rfl | rfl | rfl
  ·exact fk 4
  ·exact fk 2
  ·exact fk 3
  ·exact fk 0
  ·exact fk 1
 clear fr fk ne l1 l2 hp ho;generalize s1.heap.objs.size+4=z at *;generalize s1.heap.objs.size+2=TI at *;generalize s1.heap.objs.size+3=TO at *;generalize s1.heap.objs.size+1=i2 at *;generalize s1.heap.objs.size=i1 at *;obtain⟨s2,hs2⟩:∃s2,({ s1 with heap:=h' }:AB)=s2:=⟨_,rfl⟩
 have e2:h'=s2.heap:=by rw[<- hs2]
 rw[hs2] at I2 ⊢;rw[e2] at S0 hzz;refine Calls.spliced_nil ?_;have hh:X.A.handled=none:=I2.ok.hd hc;have hf:=I2.hok.fresh (bw s2.heap.objs.size);have I3:=I2.laid (a:=s2.heap.objs.size) (o:=.dK []) (t':=s2.toks) (fun _ _ q=>fB _ q) (bw _) (G_ s2.heap I2.big);have sm:=aO hf (.dK []);have hd3:upd H1 s2.heap.objs.size (.dK []) s2.heap.objs.size=some (.dK []):=aA;refine callType_codes (Q₁:=fun obj s₁=>obj=.ref s2.heap.objs.size/\s₁={ s2 with heap:=s2.heap.push { cls:=.type "dict",data:=.dict #[] } }) F.kt_called_dict (F.kt_typeCall_dict_1 _) F.entry_dict_init (kt_code_dict_new _ ⟨rfl,rfl⟩) ?_
 intro obj s₁ yL; obtain⟨rfl,rfl⟩:=yL;have hT:Shared.TypeIs { s2 with heap:=s2.heap.push { cls:=.type "dict",data:=.dict #[] } } (.ref s2.heap.objs.size) "dict" := ⟨_,cO _ rfl,rfl⟩
 refine⟨hT,F.args_dict_init_2 _ _,?_⟩;unfold Builtin.«dict.__init__»;refine aN ?_;unfold Builtin.Dict.selfAndRest;refine aN (wpAny_notOrdered_dict hT ?_);show wpAny _ _ (pure (s2.heap.objs.size,[Value.ref z])) _ _ _;refine bV ?_;show wpAny _ _ (Builtin.Dict.updateFrom "dict.__init__" s2.heap.objs.size (.ref z) [] .none) _ _ _;unfold Builtin.Dict.updateFrom;have ez:(s2.heap.push { cls:=.type "dict",data:=.dict #[] }).get? z=some _:=fB _ hzz;refine aN (FZ ⟨_,ez,rfl⟩ ?_);rw[bh ⋯]
 refine aN (Jt ez hh fun h4 tk k4=>?_);rw[bh ⋯]
 refine aN (yW ?_);have I4:=I3.kept (t':=tk) k4;have S4:=S0.keep (h':=h4) fun c o e=>k4 _ _ (fB _ e)
 have fp4:∀c∈[z,TI,TO,i1,i2],fD X ae (upd H1 s2.heap.objs.size (.dK [])) c:=fun c hc=>by
  have lt:c<s2.heap.objs.size:=by
   obtain⟨st,p',l,r⟩:=S0;rcases st with⟨g,x,y,e⟩ | ⟨t',fl,g,⟨o,e⟩,n⟩
   ·simp only[bB,dM,or_false] at hc;rcases hc with rfl | rfl | rfl | rfl | rfl
    ·exact bH g
    ·exact bH p'
    ·exact bH e
    ·obtain⟨o,e,_⟩:=l; exact bH e
    ·obtain⟨o,e,_⟩:=r; exact bH e
   ·have g':s2.heap.get? z=some _:=g;have h'':s2.heap.get? z=some _:=hzz;rw[h''] at g';exact absurd g' (by intro w; cases w)
  exact⟨by rw[aH (dJ lt)]; exact(fp c hc).1,(fp c hc).2⟩
 refine aN (Gg (show IsZip h4 z TI TO .none from k4 _ _ ez) ?_);refine bV ⟨plainId_quiet oX _,codeAny_builtin Aa ?_⟩;rw[Around.under_plainId oX _];refine Lz (p:=s2.heap.objs.size) (ks:=ks) (ys:=ys) N hn hz ks.length 0 _ _ X.A.in1 [] _ ∅ (gC _) hh I4 aA (gC _) (sm _ _ hla) (sm _ _ hlb) S4 fp4 fun s' J=>?_
 rw[J7] at J;exact⟨rfl,.ref s2.heap.objs.size,_,J,rfl,q _ _ hf (aO hf _) aA⟩
end
structure J1(K:Frag)(x qual:Str)(st:Stmt)(f:Addr)(fd:FuncData)(T:Addr):Prop where
 ex:∃(oc:AA)(od:Option Addr)(kV doc pm:AA)(an:Option Addr)(cdv ct:AA)(osl:Array (Option AA)),
  fd=fnOf x qual (b7 st) (bK st) (aD st) (.ref T) kV doc pm an cdv ct/\K.lookup f=some ⟨oc,od,.func fd,osl⟩/\codeIn K cdv qual=true
 kp:keepIn K (.ref f)=true
 df:∃o n,K.lookup T=some o/\o.data=.seq #[.none] n
section
variable{P:AC}{w:World}{K:Frag}{mg:Str->Option AA}{base:Heap}
theorem J1.okE{x qual:Str}{st:Stmt}{f T:Addr}{fd:FuncData}{N ps:List Str}{k:Nat}{sp:Sp}(F:J1 K x qual st f fd T)(S:aV N ps (aD st))(len: autoParam (∀vs H Q E,sp vs H Q E->vs.length=ps.length) z_g._auto_1)
  (hbody:∀(cdv:AA)(A:Around)(outer:List Env)(s:AB)(H:Hp)(vs:List V)(Q:VK)(E:XK),jK P w H s.heap->eG k (A.deeper (envOfC qual (aD st) s.heap.objs.size f cdv))->sp vs H Q E ->
   ∃t,Ej (k_ (wy P w) P w K mg base N qual (aD st) f cdv A outer s H E) (bK st) t/\t { nx:=fun _ H'=>Q .non H',rt:=Q } (start N vs) H):bF P w K mg base (wy P w) (k+1) f fd ps sp:=by
 refine aav F.ex fun oc od kV doc pm an cdv ct osl zq9 lk hcd=>?_; subst zq9;exact Rq lk hcd S len fun A outer s H vs Q E Ri hr hsp=>hbody cdv A outer s H vs Q E Ri hr hsp
theorem J1.binds{x qual:Str}{st:Stmt}{f T:Addr}{fd:FuncData}{ps:List Str}{ds:List AA}(F:J1 K x qual st f fd T)
  (h:∀(kV doc pm:AA)(an:Option Addr)(cdv ct:AA)(us:List AA),(us++ds).length=ps.length->∃k,bindArgs (fnOf x qual (b7 st) (bK st) (aD st) (.ref T) kV doc pm an cdv ct) ⟨us,[]⟩=seqItems? (.ref T) >>= k/\k (some #[.none])=pure (ps.zip (us++ds))):Binds K fd ps ds:=by
 obtain⟨oc,od,kV,doc,pm,an,cdv,ct,osl,rfl,lk,hcd⟩:=F.ex;obtain⟨o,n,ho,hd⟩:=F.df;intro s us KX hl;obtain⟨k,h1,h2⟩:=h kV doc pm an cdv ct us hl;exact BindsTo.of_defaults rfl (KX _ _ ho) hd h1 h2
structure Ek(P:AC)(w:World)(K:Frag)(mg:Str->Option AA)(base:Heap)(k:Nat)(C:Addr)(m:Str)(ps:List Str)(sp:Sp) where
 f:Addr
 fd:FuncData
 G:bF P w K mg base iy k f fd ps sp
 M:Meth K C m f
 c:Hv K C
 b:Binds K fd ps []
structure akO(P:AC)(w:World)(K:Frag)(mg:Str->Option AA)(base:Heap)(k:Nat)(C:Addr)(m:Str)(ps:List Str)(sp:Sp) where
 f:Addr
 fd:FuncData
 G:bF P w K mg base (wy P w) k f fd ps sp
 M:Meth K C m f
 c:Hv K C
 b:Binds K fd ps []
structure YX(P:AC)(w:World)(K:Frag)(mg:Str->Option AA)(base:Heap)(k:Nat)(C:Addr)(x:Str)(ps:List Str)(sp:Sp) where
 f:Addr
 fd:FuncData
 j:Nat
 hj:j+1<=k
 G:bF P w K mg base iy j f fd ps sp
 M:Mk K C f
 b:Binds K fd ps []
 bd:Binds K fd ps [.none]
 m:mg x=some (.ref C)
structure YW(P:AC)(w:World)(K:Frag)(mg:Str->Option AA)(base:Heap)(k:Nat)(C:Addr)(x:Str)(ps:List Str)(sp:Sp) where
 f:Addr
 fd:FuncData
 j:Nat
 hj:j+1<=k
 G:bF P w K mg base (wy P w) j f fd ps sp
 M:Mk K C f
 b:Binds K fd ps []
 bd:Binds K fd ps [.none]
 m:mg x=some (.ref C)
theorem bF.calm{k:Nat}{f:Addr}{fd:FuncData}{ps:List Str}{sp:Sp}(G:bF P w K mg base (wy P w) k f fd ps sp):bF P w K mg base iy k f fd ps (fun vs H Q _=>sp vs H Q E0):=
 ⟨fun vs H Q E h=>G.len _ _ _ _ h,fun A outer s H args us vs Q E hr he hb hv h=>codeAny_mono (G.run A outer s H args us vs Q E0 hr he hb hv h) fun r s' z=>by
  cases r with
  | error e=>
   refine aay z fun _ _ _ _ _ _ _ _ _ _ _ _ _ q=>?_; clear z;exact q.elim
  | ok fl=>cases fl <;> exact z⟩
def Ek.mono{j k:Nat}{C:Addr}{m:Str}{ps:List Str}{sp:Sp}(c:Ek P w K mg base j C m ps sp)(h:j<=k):Ek P w K mg base k C m ps sp:={ c with G:=c.G.mono h }
def YX.mono{j k:Nat}{C:Addr}{m:Str}{ps:List Str}{sp:Sp}(c:YX P w K mg base j C m ps sp)(h:j<=k):YX P w K mg base k C m ps sp:={ c with hj:=iH c.hj h }
def YW.calm{k:Nat}{C:Addr}{m:Str}{ps:List Str}{sp:Sp}(c:YW P w K mg base k C m ps sp):YX P w K mg base k C m ps (fun vs H Q _=>sp vs H Q E0):=⟨c.f,c.fd,c.j,c.hj,c.G.calm,c.M,c.b,c.bd,c.m⟩
def SN.alias{k:Nat}{x y:Str}{ps:List Str}{i:Int}{sp:Sp}(c:SN P w K mg base k x ps i sp)(h:mg y=some (.ref c.f)):SN P w K mg base k y ps i sp:=⟨c.f,c.fd,c.t,c.G,c.kp,c.b,c.bd,h⟩
end
section
variable{X:Cx}{C:Addr}{m x:Str}{apos pos p:Pos}{o e:Expr}{es:List Expr}{ta:TE}{t:TA}{k:Nat}{ps:List Str}{sp:Sp}
theorem pm(c:Ek X.prog X.w X.K X.mg X.base k C m ps sp)(hr:eG k X.A)(ho:PE X o ta)(ha:PA X (e::es) t)(h1: ~~~(bO e=true))(h2: ~~~(es.all bO=true)){pl:Sem Bool}
  (ht: ~~~(eval (.Call (.Attribute o m apos) (e::es) [] pos) X.env=(do
   let ov <- eval o X.env
   standAt apos.atName
   let (f,first) <- holding [ov] (getMethod ov m pl)
   callWith pos f first (backTo pos (starEach (e::es) X.env)) (backToKw pos (keywordEach [] X.env))))):PE X (.Call (.Attribute o m apos) (e::es) [] pos) (mz C m sp [] E0 ta t):=
 Ug ho c.c c.M c.G hr c.b .nil Ay ha (bW h1) (b8 h2) ht
theorem pm0(c:Ek X.prog X.w X.K X.mg X.base k C m ps sp)(hr:eG k X.A)(ho:PE X o ta){pl:Sem Bool}
  (ht: ~~~(eval (.Call (.Attribute o m apos) [] [] pos) X.env=(do
   let ov <- eval o X.env
   standAt apos.atName
   let (f,first) <- holding [ov] (getMethod ov m pl)
   callWith pos f first (backTo pos (starEach [] X.env)) (backToKw pos (keywordEach [] X.env))))):PE X (.Call (.Attribute o m apos) [] [] pos) (mz C m sp [] E0 ta qt):=
 QH ho c.c c.M c.G hr c.b .nil Ay ht
theorem pk(c:YX X.prog X.w X.K X.mg X.base k C x ps sp)(hr:eG k X.A)(ha:PA X (e::es) t)(hg: ~~~(Gl X x))(hdb:((x==("__debug__" : Str))=false)⁻¹)(h1: ~~~(bO e=true))(h2: ~~~(es.all bO=true)) :
  PE X (.Call (.Name x p) (e::es) [] pos) (rm C sp [] E0 t):=KH c.M c.G (hr.mono c.hj) hg c.m c.b .nil Ay ha hdb (bW h1) (b8 h2)
theorem pkd(c:YX X.prog X.w X.K X.mg X.base k C x ps sp)(hr:eG k X.A)(ha:PA X (e::es) t)(hg: ~~~(Gl X x))(hdb:((x==("__debug__" : Str))=false)⁻¹)(h1: ~~~(bO e=true))(h2: ~~~(es.all bO=true)) :
  PE X (.Call (.Name x p) (e::es) [] pos) (rm C sp [.non] E0 t):=KH c.M c.G (hr.mono c.hj) hg c.m c.bd (.cons rfl .nil) Ay ha hdb (bW h1) (b8 h2)
theorem cM{K:Frag}{f:Str}(hK:X.K=K)(he:PE X e ta)(hb: ~~~(attributeBase e f X.env (eval e X.env)=eval e X.env)):PE X (.Attribute e f pos) (Fd K ta f):=by
 subst hK;exact Xx he hb
theorem lV{K:Frag}{f:Str}{value:Expr}{pos':Pos}{tv:TE}(hK:X.K=K)(ha:PE X o ta)(hv:PE X value tv)(hs: ~~~(swapsWith value (some (.Attribute o f pos')) pos.line X.env=pure false)):PS X (.Assign [.Attribute o f pos'] value pos) (Fq K ta tv f):=by
 subst hK;exact Xn ha hv hs
end
section
variable{P:AC}{w:World}{K:Frag}{mg:Str->Option AA}{base:Heap}{N:List Str}{qual:Str}{scope:Scope}{f:Addr}{cd:AA}{A:Around}{outer:List Env}{s0:AB}{H0:Hp}{E:XK}
def sZ(C:Addr)(m:Str)(sp:Sp)(E:XK)(ta:TE)(t:TA):TE:=fun σ H Q=>ta σ H fun x H1=>∃a dx fs,x=.ref a/\H1 a=some (.ins C dx fs)/\fs.lookup m=none/\t σ H1 fun vs H2=>sp (.ref a::vs) H2 Q (fun cls _ H3=>∀H4,(aK H2 H3->aK H2 H4)->E cls none H4)
end
def O9(C:Addr)(m:Str)(sp:Sp)(ta:TE)(t:TA):TX:=fun σ H Q EE=>ta σ H fun x H1=>∃a dx fs,x=.ref a/\H1 a=some (.ins C dx fs)/\fs.lookup m=none/\t σ H1 fun vs H2=>sp (.ref a::vs) H2 Q (fun cls _ H3=>EE cls H2 H3)
section
variable{X:Cx}
end
theorem XC{X:Cx}{K:Frag}(hK:X.K=K):m7 X (compareOp .In) (rIn K false):=by
 subst hK;exact Nf
theorem M9{X:Cx}{K:Frag}(hK:X.K=K):m7 X (compareOp .NotIn) (rIn K true):=by
 subst hK;exact CZ
theorem Bj(ns:List Str):(ns.map V.str).all rZ=true:=by
 rw[List.all_map];exact pK.mpr fun _ _=>rfl
theorem Dl(n:Str)(ns:List Str):inV (.str n) (ns.map V.str)=decide (n∈ns):=by
 unfold inV;rw[List.any_map]
 induction ns with
 | nil=>rfl
 | cons a r ih=>
  rw[xK,ih];by_cases h:n=a
  ·subst h;simp[Sw]
  ·have:¬a=n:=fun z=>h z.symm;simp[Sw,h,this]
def fJ(H H':Hp):Prop:=∀b xs,H b=some (.tup xs)->H' b=some (.tup xs)
theorem fJ.trans{H H1 H2:Hp}(a:fJ H H1)(b:fJ H1 H2):fJ H H2:=fun c xs z=>b c xs (a c xs z)
theorem aK.kp{H H':Hp}(s:aK H H'):fJ H H':=fun b _ z=>s b _ z
theorem fJ.put{H:Hp}{p:Addr}{o:HO}(n:∀xs,H p≠some (.tup xs)):fJ H (upd H p o):=fun b xs z=>by
 by_cases e:b=p
 ·subst e; exact absurd z (n xs)
 ·rw[aH e]; exact z
theorem fJ.putL{H:Hp}{p:Addr}{o:HO}{xs:List V}(n:H p=some (.lst xs)):fJ H (upd H p o):=fJ.put fun ys z=>by rw[n] at z; cases z
theorem fJ.putD{H:Hp}{p:Addr}{o:HO}{xs:List (Key×V)}(n:H p=some (.dK xs)):fJ H (upd H p o):=fJ.put fun ys z=>by rw[n] at z; cases z
mutual
theorem At.kp{H H':Hp}(m:fJ H H'):∀(d:PyData)(v:V),uR d=true->At H d v->At H' d v
 | .none,_,_,h=>by unfold At at h ⊢; exact h
 | .bool _,_,_,h=>by unfold At at h ⊢; exact h
 | .int _,_,_,h=>by unfold At at h ⊢; exact h
 | .str _,_,_,h=>by unfold At at h ⊢; exact h
 | .tuple ds,v,n,h=>by
  unfold At at h ⊢;obtain⟨a,ys,e,h1,h2⟩:=h;exact⟨a,ys,e,m _ _ h1,aa.kp m ds ys (by simpa[uR] using n) h2⟩
 | .list _,_,n,_=>by simp[uR] at n
 | .dict _,_,n,_=>by simp[uR] at n
theorem aa.kp{H H':Hp}(m:fJ H H'):∀(ds:List PyData)(ys:List V),bD ds=true->aa H ds ys->aa H' ds ys
 | [],_,_,h=>by unfold aa at h ⊢; exact h
 | d::ds,ys,n,h=>by
  unfold aa at h ⊢;obtain⟨x,r,e,h1,h2⟩:=h;simp only[bD,Fx] at n;exact⟨x,r,e,At.kp m d x n.1 h1,aa.kp m ds r n.2 h2⟩
end
theorem aa.nth{H:Hp}:∀{ds:List PyData}{ys:List V}{i:Nat}{d:PyData},aa H ds ys->ds[i]?=some d->∃y,ys[i]?=some y/\At H d y
 | [],_,_,_,_,e=>by cases e
 | d::ds,ys,i,d',h,e=>by
  unfold aa at h;refine bG h fun x r cL h1 h2=>?_; clear h; subst cL;cases i with
  | zero=>cases e; exact⟨x,rfl,h1⟩
  | succ i=>exact aa.nth (ds:=ds) (ys:=r) (i:=i) h2 e
theorem aa.snoc{H:Hp}{ds:List PyData}{ys:List V}{d:PyData}{y:V}(h:aa H ds ys)(a:At H d y):aa H (ds++[d]) (ys++[y]):=aa.append h (aa.cons a aa.nil)
def Fr(S:List Addr)(H H':Hp):Prop:=∀b o,H b=some o->b∉S->H' b=some o
theorem Fr.refl(S:List Addr)(H:Hp):Fr S H H:=fun _ _ z _=>z
theorem aK.fr{H H':Hp}(s:aK H H')(S:List Addr):Fr S H H':=fun b o z _=>s b o z
theorem Fr.trans{S:List Addr}{H H1 H2:Hp}(a:Fr S H H1)(b:Fr S H1 H2):Fr S H H2:=fun c o z n=>b c o (a c o z n) n
theorem Fr.sub{S T:List Addr}{H H':Hp}(a:Fr S H H')(h:∀b∈S,b∈T\/H b=none):Fr T H H':=fun b o z n=>a b o z fun hb=>(h b hb).elim n fun e=>by rw[e] at z; cases z
theorem Fr.put{S:List Addr}{H:Hp}{p:Addr}{o:HO}(h:p∈S):Fr S H (upd H p o):=fun b u z n=>by
 have e:b≠p:=fun e=>n (by rw[e]; exact h)
 rw[aH e]; exact z
theorem Fr.kp{S:List Addr}{H H':Hp}(a:Fr S H H')(n:∀b∈S,∀xs,H b≠some (.tup xs)):fJ H H':=fun b xs z=>a b _ z fun hb=>n b hb xs z
def zK(ns:List Str)(vs:List V):List (Key×V):=(ns.map Sum.inr).zip vs
theorem HJ{ns:List Str}{vs:List V}(h:ns.length=vs.length):(zK ns vs).length=ns.length:=by unfold zK; rw[Gb,bN]; omega
theorem O5:∀{ns:List Str}{vs:List V}{i:Nat}{n:Str},ns.Nodup->ns[i]?=some n->ns.length=vs.length->qZ (zK ns vs) (Sum.inr n:Key)=vs[i]?
 | [],_,_,_,_,h,_=>by cases h
 | a::ns,[],_,_,_,_,h=>by cases h
 | a::ns,v::vs,0,n,_,h,_=>by
  cases h;exact qY rfl
 | a::ns,v::vs,i+1,n,nd,h,l=>by
  have hn:a≠n:=fun z=>by
   subst z;exact(km.mp nd).1 (dC h)
  show qZ ((Sum.inr a,v)::zK ns vs) (Sum.inr n:Key)=_;unfold qZ;rw[List.find?_cons_of_neg (by simpa using hn)]
  exact O5 (km.mp nd).2 h (Nat.succ.inj l)
theorem HN:∀{ns:List Str}{vs:List V}{n:Str},ns.length=vs.length->((zK ns vs).any fun kv=>decide (kv.1=(Sum.inr n:Key)))=decide (n∈ns)
 | [],_,_,_=>by simp[zK]
 | a::ns,[],_,h=>by cases h
 | a::ns,v::vs,n,l=>by
  show(((Sum.inr a,v)::zK ns vs).any _)=_;rw[xK,HN (Nat.succ.inj l)];by_cases h:n=a
  ·subst h; simp
  ·have:¬a=n:=fun z=>h z.symm;simp[h,this]
theorem O7:∀{ns:List Str}{vs:List V}{i:Nat}{n:Str}{u:V},ns.Nodup->ns[i]?=some n->ns.length=vs.length->((zK ns vs).map fun kv=>if kv.1=(Sum.inr n:Key) then(kv.1,u) else kv)=zK ns (vs.set i u)
 | [],_,_,_,_,_,h,_=>by cases h
 | a::ns,[],_,_,_,_,_,h=>by cases h
 | a::ns,v::vs,0,n,u,nd,h,l=>by
  cases h;show(((Sum.inr a,v)::zK ns vs).map _)=(Sum.inr a,u)::zK ns vs;rw[gH,bh rfl]
  congr 1
  have hn:=(km.mp nd).1;rw[List.map_congr_left (g:=id),List.map_id];intro kv hkv;refine aX fun z=>hn ?_;have:=Aq hkv;rw[z] at this;simpa using this.1
 | a::ns,v::vs,i+1,n,u,nd,h,l=>by
  have hn:a≠n:=fun z=>by
   subst z;exact(km.mp nd).1 (dC h)
  show(((Sum.inr a,v)::zK ns vs).map _)=(Sum.inr a,v)::zK ns (vs.set i u);rw[gH,aX (by simpa using hn),O7 (km.mp nd).2 h (Nat.succ.inj l)]
theorem WN{ns:List Str}{vs:List V}{i:Nat}{n:Str}{u:V}(nd:ns.Nodup)(h:ns[i]?=some n)(l:ns.length=vs.length):putK (zK ns vs) (Sum.inr n:Key) u=zK ns (vs.set i u):=by
 unfold putK;rw[bh (by rw[HN l]; exact rH (dC h)),O7 nd h l]
theorem O6{ns:List Str}{vs:List V}{n:Str}{u:V}(h:n∉ns)(l:ns.length=vs.length):putK (zK ns vs) (Sum.inr n:Key) u=zK (ns++[n]) (vs++[u]):=by
 unfold putK;rw[aX (by rw[HN l]; simpa using h)]
 unfold zK;rw[gJ,List.zip_append (by rw[bN]; exact l)]
 rfl
theorem Ep:∀(ns:List Str)(vs:List V)(ms:List Str)(us:List V),(ms++ns).Nodup->ms.length=us.length->ns.length=vs.length->je (zK ms us) (zK ns vs)=zK (ms++ns) (us++vs)
 | [],vs,ms,us,_,_,l=>by
  cases vs with
  | nil=>rw[qF,qF]; rfl
  | cons=>cases l
 | a::ns,[],ms,us,_,_,l=>by cases l
 | a::ns,v::vs,ms,us,nd,h,l=>by
  have hn:a∉ms:=fun z=>by
   rw[vh] at nd;exact nd.2.2 a z a (dg ..) rfl
  show je (putK (zK ms us) (Sum.inr a) v) (zK ns vs)=_;rw[O6 hn h,Ep ns vs (ms++[a]) (us++[v]) (by rw[FN]; exact nd) (by simp[h]) (Nat.succ.inj l),FN,FN]
  rfl
theorem m8.z{H:Hp}{a:Addr}{ns:List Str}{vs:List V}{i:Nat}{n:Str}{v:V}(e:H a=some (.dK (zK ns vs)))(nd:ns.Nodup)(h:ns[i]?=some n)(l:ns.length=vs.length)(hv:vs[i]?=some v):m8 H a (.str n) (some v):=by
 have:=m8.k (k:=(Sum.inr n:Key)) e;rw[O5 nd h l,hv] at this;exact this
theorem vQ.z{H:Hp}{a:Addr}{ns:List Str}{vs:List V}{i:Nat}{n:Str}{v:V}(e:H a=some (.dK (zK ns vs)))(nd:ns.Nodup)(h:ns[i]?=some n)(l:ns.length=vs.length)(z:ns.length<=1000):vQ H a (.str n) v (upd H a (.dK (zK ns (vs.set i v)))):=by
 have:=vQ.k (k:=(Sum.inr n:Key)) (v:=v) e (aQ (by rw[HJ l]; exact z))
 rw[WN nd h l] at this;exact this
theorem RC{K:Frag}{nt:Nat}{g:TG}{js:List Nat}{a:Addr}{xs:List V}{tl tk tv:TE}{σ:St}{H:Hp}{Q:VK}(τ:Nat->St)(hτ:∀i,(τ i).length=nt)(hl:∀R:VK,R (.ref a) H->tl σ H R)(ha:H a=some (.lst xs))
  (h:∀acc,H acc=none->∃Pv:Nat->List (Key×V)->Hp->Prop,Pv 0 [] (upd H acc (.dK []))/\(∀i ys H',Pv i ys H'->H' a=some (.lst xs)) /\
   (∀i x ys H',xs[i]?=some x->Pv i ys H'->(∀R:St->Hp->Prop,R (τ i++bQ js σ) H'->g x (List.replicate nt none++bQ js σ) H' R)/\tk (τ i++bQ js σ) H' fun y H4=>tv (τ i++bQ js σ) H4 fun v H5=>∃k,y=kV k/\H5 acc=some (.dK ys)/\ys.length<sizeLine/\Pv (i+1) (putK ys k v) (upd H5 acc (.dK (putK ys k v))))/\∀ys H',Pv xs.length ys H'->Q (.ref acc) H'):wM nt js (p_ K tl) g tk tv σ H Q:=by
 refine hl _ ⟨a,rfl,⟨xs,bT.of ha⟩,fun acc hacc=>?_⟩;refine aaF (h acc hacc) fun Pv p0 pA ps pf=>?_;refine⟨fun i m ys H2=>m=xs.length-i/\i<=xs.length/\Pv i ys H2,⟨_,rfl,gC _,p0⟩,?_⟩;intro i m ys H2 yL; refine Qy yL fun LR hi hP=>?_; clear yL; subst LR;have ht:bT K H2 a xs:=bT.of (pA _ _ _ hP);by_cases hlt:i<xs.length
 ·refine .inr ⟨⟨xs,xs[i],ht,cT hlt⟩,fun x H3 y=>?_⟩;obtain⟨e1,y⟩:=y;subst e1;obtain⟨gg,tt⟩:=ps i x ys _ (y xs ht) hP;refine gg _ ⟨⟨?_,?_⟩,?_⟩
  ·rw[Qu (by rw[hτ]; exact bw _),<- hτ i,Fz,vg]
  ·rw[cC,cC,hτ,pM]
  have e:(fun(y:V)(H4:Hp)=>tv (τ i++bQ js σ) H4 fun v H5=>∃k,y=kV k/\H5 acc=some (.dK ys)/\ys.length<sizeLine/\Pv (i+1) (putK ys k v) (upd H5 acc (.dK (putK ys k v))))=fun y H4=>tv (τ i++bQ js σ) H4 fun v H5=>∃k,y=kV k/\H5 acc=some (.dK ys)/\ys.length<sizeLine/\∃m',m'<xs.length-i/\(m'=xs.length-(i+1)/\i+1<=xs.length/\Pv (i+1) (putK ys k v) (upd H5 acc (.dK (putK ys k v)))):=by
   funext y H4
   congr 1
   funext v H5
   exact propext ⟨fun⟨k,z0,z1,z2,z3⟩=>⟨k,z0,z1,z2,xs.length-(i+1),∅,rfl,hlt,z3⟩,fun⟨k,z0,z1,z2,_,_,_,_,z3⟩=>⟨k,z0,z1,z2,z3⟩⟩
  rw[e] at tt;exact tt
 ·have e:i=xs.length:=by omega
  subst e;exact .inl ⟨⟨xs,ht,bw _⟩,pf _ _ hP⟩
theorem cU{α:Type}{l:List α}{i:Nat}{x:α}(h:l[i]?=some x):l.take (i+1)=l.take i++[x]:=by
 rw[List.take_add_one,h]; rfl
theorem v_{K:Frag}{nt:Nat}{g:TG}{js:List Nat}{a:Addr}{xs:List V}{tl tk tv:TE}{σ:St}{H:Hp}{Q:VK}(ns:List Str)(ds:List PyData)(τ:Nat->St)(hτ:∀i,(τ i).length=nt)(hl:∀R:VK,R (.ref a) H->tl σ H R)(ha:H a=some (.lst xs))
  (nd:ns.Nodup) (ln:ns.length=xs.length) (ld:ds.length=xs.length) (hz:xs.length<=1000) (hn:bD ds=true)
  (step:∀i x n d H',xs[i]?=some x->ns[i]?=some n->ds[i]?=some d->aK H H'->(∀R:St->Hp->Prop,R (τ i++bQ js σ) H'->g x (List.replicate nt none++bQ js σ) H' R)/\(∀R:VK,R (.str n) H'->tk (τ i++bQ js σ) H' R)/\∀R:VK,(∀v H5,aK H' H5->At H5 d v->R v H5)->tv (τ i++bQ js σ) H' R)
  (fin:∀acc vs H',H acc=none->aK H H'->H' acc=some (.dK (zK ns vs))->aa H' ds vs->ns.length=vs.length->Q (.ref acc) H'):wM nt js (p_ K tl) g tk tv σ H Q:=by
 refine RC τ hτ hl ha fun acc hacc=>?_;refine⟨fun i ys H2=>∃vs,ys=zK (ns.take i) vs/\(ns.take i).length=vs.length/\aa H2 (ds.take i) vs/\aK H H2/\H2 acc=some (.dK ys),⟨[],rfl,rfl,aa.nil,aO hacc _,aA⟩,fun i ys H2 q=>?_,?_,?_⟩
 ·obtain⟨vs,_,_,_,s2,_⟩:=q;exact s2 _ _ ha
 ·intro i x ys H2 hx wz; refine aaE wz fun vs R_ lv av s2 e2=>?_; clear wz; subst R_;have hi:i<xs.length:=(jF.mp hx).1;have en:ns[i]?=some ns[i]:=cT ∅
  have ed:ds[i]?=some ds[i]:=cT ∅
  refine Qy (step i x _ _ H2 hx en ed s2) fun g1 g2 g3=>?_;refine⟨g1,g2 _ (g3 _ fun v H5 s5 a5=>⟨Sum.inr ns[i],rfl,s5 _ _ e2,aQ ?_,vs++[v],?_,?_,?_,?_,aA⟩)⟩
  ·rw[HJ lv,kI]; omega
  ·rw[cU en,O6 _ lv];intro z;rw[<- List.take_append_drop i ns,vh] at nd;exact nd.2.2 _ z _ (by rw[M5 ∅]; exact dg ..) rfl
  ·rw[cU en,cC,cC,lv]; rfl
  ·rw[cU ed];have k5:fJ H2 (upd H5 acc (.dK (putK (zK (ns.take i) vs) (Sum.inr ns[i]) v))):=s5.kp.trans (fJ.putD (s5 _ _ e2));have hn':=bj.mp hn;exact(aa.kp k5 _ _ (bj.mpr fun d hd=>hn' d (FQ hd)) av).snoc (At.kp (fJ.putD (s5 _ _ e2)) _ _ (hn' _ (mZ _)) a5)
  ·intro b o z;rw[aH (fun e=>by rw[e,hacc] at z; cases z)]
   exact s5 _ _ (s2 _ _ z)
 ·intro ys H2 LC; obtain⟨vs,rfl,lv,av,s2,e2⟩:=LC;rw[show xs.length=ns.length from ln.symm,rJ] at e2 lv;rw[show xs.length=ds.length from ld.symm,rJ] at av;exact fin acc vs H2 hacc s2 e2 av lv
theorem pF{K:Frag}{nt:Nat}{g:TG}{js:List Nat}{a:Addr}{xs:List V}{tl te:TE}{σ:St}{H:Hp}{Q:VK}(ds:List PyData)(τ:Nat->St)(hτ:∀i,(τ i).length=nt)(hl:∀R:VK,R (.ref a) H->tl σ H R)(ha:H a=some (.lst xs))
  (ld:ds.length=xs.length) (hz:xs.length<=1000) (hn:bD ds=true)
  (step:∀i x d H',xs[i]?=some x->ds[i]?=some d->aK H H'->(∀R:St->Hp->Prop,R (τ i++bQ js σ) H'->g x (List.replicate nt none++bQ js σ) H' R)/\∀R:VK,(∀v H5,aK H' H5->At H5 d v->R v H5)->te (τ i++bQ js σ) H' R)
  (fin:∀acc vs H',H acc=none->aK H H'->H' acc=some (.lst vs)->aa H' ds vs->Q (.ref acc) H'):ik nt js (p_ K tl) g tL te σ H Q:=by
 refine RJ τ hτ hl ha fun acc hacc=>?_;refine⟨fun i ys H2=>ys.length=i/\aa H2 (ds.take i) ys/\aK H H2/\H2 acc=some (.lst ys),⟨rfl,aa.nil,aO hacc _,aA⟩,fun i ys H2 q=>q.2.2.1 _ _ ha,?_,?_⟩
 ·intro i x ys H2 hx El; refine aaG El fun lv av s2 e2=>?_; clear El;have hi:i<xs.length:=(jF.mp hx).1;have ed:ds[i]?=some ds[i]:=cT ∅
  obtain⟨g1,g3⟩:=step i x _ H2 hx ed s2;refine⟨g1,g3 _ fun v H5 s5 a5=>⟨s5 _ _ e2,aQ ∅,by rw[cC,lv]; rfl,?_,?_,aA⟩⟩
  ·rw[cU ed];have k5:fJ H2 (upd H5 acc (.lst (ys++[v]))):=s5.kp.trans (fJ.putL (s5 _ _ e2));have hn':=bj.mp hn;exact(aa.kp k5 _ _ (bj.mpr fun d hd=>hn' d (FQ hd)) av).snoc (At.kp (fJ.putL (s5 _ _ e2)) _ _ (hn' _ (mZ _)) a5)
  ·intro b o z;rw[aH (fun e=>by rw[e,hacc] at z; cases z)]
   exact s5 _ _ (s2 _ _ z)
 ·intro ys H2 Hw; obtain⟨lv,av,s2,e2⟩:=Hw;rw[show xs.length=ds.length from ld.symm,rJ] at av;exact fin acc ys H2 hacc s2 e2 av
theorem iK{K:Frag}{js:List Nat}{a:Addr}{xs:List V}{tl te:TE}{σ:St}{H:Hp}{Q:VK}(ds:List PyData)(hl:∀R:VK,R (.ref a) H->tl σ H R)(ha:H a=some (.lst xs))
  (ld:ds.length=xs.length) (hz:xs.length<=1000) (hn:bD ds=true)
  (step:∀(i:Nat) x d H',xs[i]?=some x->ds[i]?=some d->aK H H'->∀R:VK,(∀v H5,aK H' H5->At H5 d v->R v H5)->te (some x::bQ js σ) H' R)
  (fin:∀acc vs H',H acc=none->aK H H'->H' acc=some (.lst vs)->aa H' ds vs->Q (.ref acc) H'):iB js (p_ K tl) te σ H Q:=by
 refine hl _ ⟨a,rfl,⟨xs,bT.of ha⟩,fun acc hacc=>?_⟩;refine⟨fun i m ys H2=>m=xs.length-i/\i<=xs.length/\ys.length=i/\aa H2 (ds.take i) ys/\aK H H2/\H2 acc=some (.lst ys),⟨_,rfl,gC _,rfl,aa.nil,aO hacc _,aA⟩,?_⟩;intro i m ys H2 ZK; refine nZ ZK fun LR hi lv av s2 e2=>?_; clear ZK; subst LR;have ht:bT K H2 a xs:=bT.of (s2 _ _ ha);by_cases hlt:i<xs.length
 ·refine .inr ⟨⟨xs,xs[i],ht,cT hlt⟩,fun x H3 y=>?_⟩;obtain⟨e1,y⟩:=y;subst e1;have ed:ds[i]?=some ds[i]:=cT ∅
  refine step i x _ _ (y xs ht) ed s2 _ fun v H5 s5 a5=>⟨s5 _ _ e2,aQ ∅,xs.length-(i+1),∅,rfl,hlt,by rw[cC,lv]; rfl,?_,?_,aA⟩
  ·rw[cU ed];have k5:fJ H3 (upd H5 acc (.lst (ys++[v]))):=s5.kp.trans (fJ.putL (s5 _ _ e2));have hn':=bj.mp hn;exact(aa.kp k5 _ _ (bj.mpr fun d hd=>hn' d (FQ hd)) av).snoc (At.kp (fJ.putL (s5 _ _ e2)) _ _ (hn' _ (mZ _)) a5)
  ·intro b o z;rw[aH (fun e=>by rw[e,hacc] at z; cases z)]
   exact s5 _ _ (s2 _ _ z)
 ·have e:i=xs.length:=by omega
  subst e;rw[show xs.length=ds.length from ld.symm,rJ] at av;exact .inl ⟨⟨xs,ht,bw _⟩,fin acc ys H2 hacc s2 e2 av⟩
theorem Vk{K:Frag}{js:List Nat}{d:Addr}{kvs:List (Key×V)}{tl te:TE}{σ:St}{H:Hp}{Q:VK}(ms:List Int)(hl:∀R:VK,R (.ref d) H->tl σ H R)(ha:H d=some (.dK kvs))(ld:ms.length=kvs.length)(hz:kvs.length<=1000)
  (step:∀(i:Nat) k x m H',kvs[i]?=some (k,x)->ms[i]?=some m->fJ H H'->∀R:VK,(∀H5,aK H' H5->R (.int m) H5)->te (some x::bQ js σ) H' R)
  (fin:∀acc H',H acc=none->aK H H'->H' acc=some (.lst (ms.map V.int))->Q (.ref acc) H'):VH (iB js (Wd K tl) te) σ H Q:=by
 refine hl _ (jM d kvs ⟨rfl,ha,fun o acc hacc=>?_⟩);have nd:acc≠d:=fun z=>by rw[z,aA] at hacc; cases hacc
 rw[aH nd] at hacc;refine⟨fun i m ys H2=>m=kvs.length-i/\i<=kvs.length/\ys=(ms.take i).map V.int/\H2 acc=some (.lst ys)/\H2 d=some (.ug o (.dK kvs))/\∀b u,H b=some u->b≠d->H2 b=some u,⟨_,rfl,gC _,rfl,aA,by rw[aH nd.symm,aA],fun b u z n=>by rw[aH (fun e=>by rw[e,hacc] at z; cases z),aH n]; exact z⟩,?_⟩
 intro i m ys H2 Vz; refine nZ Vz fun LR hi cL e2 f2 k2=>?_; clear Vz; subst LR; subst cL;by_cases hlt:i<kvs.length
 ·refine .inr ⟨⟨f2,hlt⟩,fun x H3 y=>?_⟩;obtain⟨e1,k,hx⟩:=y;subst e1;have em:ms[i]?=some ms[i]:=cT ∅
  refine step i k x _ _ hx em (fun b xs z=>k2 b _ z fun e=>by rw[e,ha] at z; cases z) _ fun H5 s5=>⟨s5 _ _ e2,aQ (by rw[bN,kI]; omega),kvs.length-(i+1),∅,rfl,hlt,?_,aA,?_,?_⟩
  ·rw[cU em,gJ]; rfl
  ·rw[aH nd.symm]; exact s5 _ _ f2
  ·intro b u z n;rw[aH (fun e=>by rw[e,hacc] at z; cases z)]
   exact s5 _ _ (k2 b u z n)
 ·have e:i=kvs.length:=by omega
  subst e;refine .inl ⟨⟨f2,bw _⟩,Eg d kvs o ⟨ha,f2,?_⟩⟩;refine fin acc _ hacc (fun b u z=>?_) (by rw[aH nd,e2,<- ld,rJ])
  by_cases e:b=d
  ·subst e; rw[aA,<- z,ha]
  ·rw[aH e]; exact k2 b u z e
section
variable{X:Cx}
end
open SetTable (Probe runEnd leap turns bits)
def adv(m:Nat)(p:Probe):Probe:=
 if p.more>0 then { p with j:=p.j+1,more:=p.more-1 } else
 { p with j:=(leap m p.i p.perturb).1,more:=runEnd m (leap m p.i p.perturb).1-(leap m p.i p.perturb).1,i:=(leap m p.i p.perturb).1,perturb:=(leap m p.i p.perturb).2 }
def itr(m:Nat):Nat->Probe->Probe
 | 0,p=>p
 | n+1,p=>itr m n (adv m p)
structure WP(m:Nat)(p:Probe):Prop where
 i:p.i<=m
 j:p.j+p.more=runEnd m p.i
 q:p.perturb<2 ^ 64
 d:p.dummy=none
 ij:p.i<=p.j
def jmp(m i q:Nat):Probe:={ j:=i,more:=runEnd m i-i,i:=i,perturb:=q,dummy:=none }
def abH(xs:Array Nat):Prop:=∀(a b x y:Nat),xs[a]?=some x->xs[b]?=some y->a<b->x<y
end _L
namespace _L
open PySem PySem.Spec PyProof.Rows
open SetTable (Probe runEnd leap turns bits)
def way(m:Nat)(h:Int)(n:Nat):Nat:=(itr m n (jmp m (bits h % (m+1)) (bits h))).j
def Path(m:Nat)(occ:Nat->Prop)(h:Int)(j:Nat):Prop:=∃n,way m h n=j/\∀n',n'<n->occ (way m h n')
structure TbI(t:SetTable)(hs:List Int):Prop where
 dm:t.dummies = #[]
 ri:abH t.place
 sz:t.place.size=hs.length
 le:∀i j:Nat,t.place[i]?=some j->j<=t.mask
 pw:∃k,3<=k/\k<=12/\t.mask+1=2 ^ k
 fl:5*hs.length<3*t.mask
 pa:∀(i:Nat)(h:Int)(j:Nat),hs[i]?=some h->t.place[i]?=some j->Path t.mask (fun y=>∃i:Nat,t.place[i]?=some y) h j
structure TbJ(t:SetTable)(hs:List Int):Prop where
 dm:t.dummies = #[]
 ri:abH t.place
 sz:t.place.size=hs.length
 le:∀i j:Nat,t.place[i]?=some j->j<=t.mask
 pw:∃k,3<=k/\k<=12/\t.mask+1=2 ^ k
 fl:hs.length<=t.mask
 pa:∀(i:Nat)(h:Int)(j:Nat),hs[i]?=some h->t.place[i]?=some j->Path t.mask (fun y=>∃i:Nat,t.place[i]?=some y) h j
end _L
namespace _L
open PySem PySem.Spec PyProof.Rows
open SetTable (Probe runEnd leap turns bits)
structure OW(m:Nat)(ow:Array (Option Nat))(hs:List Int):Prop where
 sz:ow.size=m+1
 ct:ow.toList.countP Option.isSome=hs.length
 at_:∀(l:Nat)(h:Int),hs[l]?=some h->∃j,j<=m/\ow[j]?=some (some l)/\Path m (fun y=>∃l,ow[y]?=some (some l)) h j
 lt:∀j l:Nat,ow[j]?=some (some l)->l<hs.length
 inj:∀j j' l:Nat,ow[j]?=some (some l)->ow[j']?=some (some l)->j=j'
theorem getD_none{ow:Array (Option Nat)}{j:Nat}(h:ow.getD j (some 0)=none):ow[j]?=some none:=by
 rw[Array.getD_eq_getD_getElem?] at h;cases e:ow[j]? with
 | none=>rw[e] at h; cases h
 | some o=>rw[e] at h; exact pI some h
end _L
namespace _L
open PySem PySem.Spec PyProof.Rows
open SetTable (Probe runEnd leap turns bits)
section
variable{prog:AC}{w:World}{A:Around}{E:AA->AB->Prop}{s:AB}
def skE(x:PyData×Addr):Int×AA:=(Rg x.1,.ref x.2)
structure SkI(h:Heap)(a:Addr)(o:Obj)(es:Array (Int×AA))(ep:Nat)(t:SetTable)(xs:List (PyData×Addr)):Prop where
 get:h.get? a=some o
 ex:o.ExactSet
 dt:o.data=.set es ep t
 es:es.toList=xs.map skE
 ti:TbI t (xs.map fun x=>Rg x.1)
 nd:(xs.map (·.1)).Nodup
end
end _L
namespace _L
open PySem PySem.Spec PyProof.Rows
open SetTable (Probe runEnd leap turns bits)
section
variable{prog:AC}{w:World}{A:Around}{E:AA->AB->Prop}{s:AB}
end
section
variable{X:Cx}{ae:List (Addr×Obj)}{σ:St}{H:Hp}{s:AB}{a:Addr}{ks:List PyData}
end
end _L
namespace _L
open PySem PySem.Spec PyProof.Rows
section
variable{X:Cx}{ae:List (Addr×Obj)}{σ:St}{H:Hp}{s:AB}{a:Addr}{ks:List PyData}
end
section
variable{X:Cx}
end
structure ae9(H:Hp)(xs:List V)(kvs:List (Key×V)):Prop where
 n:xs.length=kvs.length
 p:∀(i:Nat)(x:V)(q:Key×V),xs[i]?=some x->kvs[i]?=some q->∃t,x=.ref t/\H t=some (.tup [kV q.1,q.2])
section
variable{X:Cx}{ae:List (Addr×Obj)}{σ:St}
end
section
variable{X:Cx}
end
end _L
namespace _L
open PySem PySem.Spec PyProof.Rows PyProof
section
variable{prog:AC}{w:World}{A:Around}{E:AA->AB->Prop}
end
section
variable{X:Cx}{pos:Pos}
end
end _L
namespace _L
open PySem PySem.Spec PyProof.Rows
section
variable{prog:AC}{w:World}{A:Around}{E:AA->AB->Prop}{s:AB}{knd:KeyKind prog w Key}{d:Addr}{kvs:List (Key×AA)}
end
section
variable{prog:AC}{w:World}{A:Around}{E:AA->AB->Prop}{s:AB}{knd:KeyKind prog w Key}{it d:Addr}{i ep:Nat}{kvs:List (Key×AA)}
end
section
variable{X:Cx}
end
section
variable{X:Cx}
end
end _L
namespace _L
open PySem
def Eh(as:List Addr)(H H':Hp):Prop:=∀b o,b∉as->H b=some o->H' b=some o
theorem Eh.refl(as:List Addr)(H:Hp):Eh as H H:=fun _ _ _ h=>h
theorem Eh.trans{as:List Addr}{H H1 H2:Hp}(x:Eh as H H1)(y:Eh as H1 H2):Eh as H H2:=fun b o n h=>y b o n (x b o n h)
theorem Eh.of{as:List Addr}{H H':Hp}(s:aK H H'):Eh as H H':=fun b o _ h=>s b o h
theorem Eh.one{as:List Addr}{a:Addr}{H H':Hp}(ha:a∈as)(s:SX a H H'):Eh as H H':=fun b o n h=>s.get (fun e=>n (e▸ha)) h
structure wu(H:Hp)(as:List Addr)(N:Nat):Prop where
 tp:∀a∈as,∃n,n<=N/\Tp H a n
theorem wu.mono{H:Hp}{as:List Addr}{N M:Nat}(t:wu H as N)(h:N<=M):wu H as M:=⟨fun a ha=>by obtain⟨n,l,y⟩:=t.tp a ha; exact⟨n,∅,y⟩⟩
theorem wu.same{H H':Hp}{as:List Addr}{N:Nat}(t:wu H as N)(s:aK H H'):wu H' as N:=⟨fun a ha=>by obtain⟨n,l,y⟩:=t.tp a ha; exact⟨n,l,y.same s⟩⟩
theorem wu.draw{H H':Hp}{as:List Addr}{N M n:Nat}{a:Addr}(t:wu H as N)(s:SX a H H')(y:Tp H' a n)(h1:n<=M)(h2:N<=M):wu H' as M:=⟨fun b hb=>by
 by_cases e:b=a
 ·subst e; exact⟨n,h1,y⟩
 ·obtain⟨m,l,⟨x1,x2,x3,h,r⟩⟩:=t.tp b hb
  exact⟨m,∅,x1,x2,x3,s.get e h,r⟩⟩
theorem wu.out{H:Hp}{as:List Addr}{N:Nat}(t:wu H as N){b:Addr}(h:∀xs,H b≠some (.lst xs)):b∉as:=fun hb=>by
 obtain⟨n,_,⟨_,_,_,e,_⟩⟩:=t.tp b hb;exact h _ e
theorem wu.new{H:Hp}{as:List Addr}{N:Nat}(t:wu H as N){b:Addr}(h:H b=none):b∉as:=t.out fun xs e=>by rw[h] at e; cases e
end _L
namespace _L
open PySem
end _L
namespace _L
open PySem PySem.Spec PyProof.Rows
section
variable{X:Cx}
end
end _L
namespace _L
open PySem PySem.Spec PyProof.Rows PySem.SeqAt
section
variable{A:Around}{s:AB}
end
section
variable{X:Cx}
end
structure Wt(D M:Nat)(d:PyData):Prop where
 can:d.showable=true
 len:d.shown.length<=M
 dep:d.depth<=D
structure ag2(D M:Nat)(ds:List PyData):Prop where
 can:PyData.showableAll ds=true
 len:((PyData.shownAll ds).map (·.length)).sum+2*(PyData.shownAll ds).length<=M
 dep:PyData.depthAll ds<=D
def nw(H H':Hp):Hp:=fun b=>if H b=none then(match H' b with
 | some (.lst xs)=>if b=sysModules then none else some (.lst xs)
 | o=>o) else none
section
variable{H H':Hp}{b:Addr}{o:HO}
end
section
variable{X:Cx}
end
end _L
namespace _L
open PySem PySem.Spec PyProof.Rows PyProof
section
variable{X:Cx}
end
end _L
namespace _L
open PySem PySem.PyData
end _L
namespace _L
open PySem PySem.Spec PyProof.Rows
abbrev dB(h:Heap)(T:Addr)(a b c:AA):Prop:=h.get? T=some { cls:=.type "tuple",data:=.seq #[a,b,c] }
structure YF(z TO i1 i2 i3:Addr)(f1 f2 f3:List Addr):Prop where
 a0:TO≠z
 a1:i1≠z
 a2:i2≠z
 a3:i3≠z
 b1:TO≠i1
 b2:TO≠i2
 b3:TO≠i3
 z1:z∉f1
 z2:z∉f2
 z3:z∉f3
 t1:TO∉f1
 t2:TO∉f2
 t3:TO∉f3
 c2:i1∉f2
 c3:i1∉f3
 d1:i2∉f1
 d3:i2∉f3
 e1:i3∉f1
 e2:i3∉f2
theorem qQ(a b c d:AA):argsOk "object.__init__" ⟨[a,b,c,d],[]⟩:=by
 unfold argsOk; rw[signature?_of (id:="object.__init__") (n:=['_','_','t','i','n','i','_','_']) (o:=['t','c','e','j','b','o']) (by kernel_rfl) F.owner_object]; kernel_rfl
theorem wG(a b c:AA):checkTypeCall "zip" ⟨[a,b,c],[]⟩=pure ():=by kernel_rfl
theorem zq(a b c:AA):checkBuiltinCall "zip.__new__" ⟨[.type "zip",a,b,c],[]⟩=pure ():=by kernel_rfl
section
variable{prog:AC}{w:World}{A:Around}{E:AA->AB->Prop}{s:AB}
theorem wF{T:Addr}{a b c x:AA}{k:Nat}{Q:Unit->AB->Prop}(hT:dB s.heap T a b c)
  (h:∀h',h'.get? T=some { cls:=.type "tuple",data:=.seq ((#[a,b,c]:Array AA).setIfInBounds k x) }->Heap.SameBut T s.heap h'->Q () { s with heap:=h' }) :
  wpAny (model prog w) A (updateSeq T (·.setIfInBounds k x)) Q E s:=by
 refine wpAny_updateSeq hT rfl (h _ ?_ (Heap.SameBut.update ..));rw[M4 _ hT rfl];simp[Obj.mapSeq]
variable{z TI TO i1 i2 i3:Addr}{f1 f2 f3:List Addr}{n1 n2 n3 k:Nat}{P1 P2 P3:Nat->AA->Prop}{S1 S2 S3:Nat->Heap->Prop}{a b c:AA}
theorem Ma{Q:AA->AB->Prop}(Z:YF z TO i1 i2 i3 f1 f2 f3)(D1:Draws prog w A i1 f1 n1 P1 S1)(D2:Draws prog w A i2 f2 n2 P2 S2)(D3:Draws prog w A i3 f3 n3 P3 S3)
  (hz:IsZip s.heap z TI TO .none) (hi:dB s.heap TI (.ref i1) (.ref i2) (.ref i3)) (ho:dB s.heap TO a b c) (s1:S1 k s.heap) (s2:S2 k s.heap) (s3:S3 k s.heap) (k1:k<n1) (k2:k<n2) (k3:k<n3)
  (q:∀x y v h' tk,P1 k x->P2 k y->P3 k v->IsZip h' z TI TO (rawInt s.heap.objs.size)->dB h' TO x y v->S1 (k+1) h'->S2 (k+1) h'->S3 (k+1) h'->dB h' s.heap.objs.size x y v->h'.objs.size=s.heap.objs.size+1->(∀c o,c≠z->c≠TO->c≠i1->c≠i2->c≠i3->s.heap.get? c=some o->h'.get? c=some o)->Q (.ref s.heap.objs.size) { s with heap:=h',toks:=tk }) :
  wpAny (model prog w) A (Builtin.«zip.__next__» ⟨[.ref z],[]⟩) (fun fin s'=>∃v,fin=.done (.ret v)/\Q v s') E s:=by
 show wpAny _ _ (field (.ref z) 2 >>= _) _ _ _; refine aN (fP hz rfl (x:=.bool false) rfl ?_);show wpAny _ _ (field (.ref z) 3 >>= _) _ _ _; refine aN (fP hz rfl (x:=.ref TI) rfl (aN (mW hi rfl ?_)));show wpAny _ _ (Builtin.SmallTypes.ownedTupleIsFree (.ref z) >>= _) _ _ _; unfold Builtin.SmallTypes.ownedTupleIsFree;refine aN (aN (fP hz rfl (x:=.none) rfl (bV ?_))); simp only[if_true];refine aN (yW (aN (fP hz rfl (x:=.ref TO) rfl (aN (vq hz (by simp) fun hA zA sA=>?_)))))
 replace zA:IsZip hA z TI TO .ellipsis:=zA
 refine aN ?_; simp only[Ko,List.zipIdx_nil,za,xN];refine aN (aN (Fw ?_)); show wpAny _ _ (Builtin.SmallTypes.nextOf (.ref i1) >>= _) _ _ _;refine aN (D1.item k _ _ _ k1 (D1.frame _ _ _ s1 (mV sA Z.z1)) fun x hB tB pB Zf sB=>bV ?_);have oB:dB hB TO a b c:=sB.extBut _ _ Z.b1 (sA.extBut _ _ Z.a0 ho);have uB:S2 k hB:=D2.frame _ _ _ (D2.frame _ _ _ s2 (mV sA Z.z2)) (mV sB Z.c2);have wB:S3 k hB:=D3.frame _ _ _ (D3.frame _ _ _ s3 (mV sA Z.z3)) (mV sB Z.c3);refine aN (mW oB rfl (aN (wF oB fun hC oC sC=>?_)))
 replace oC:dB hC TO x b c:=oC
 refine aN (yX (bV (aN (aN (Fw ?_))))); show wpAny _ _ (Builtin.SmallTypes.nextOf (.ref i2) >>= _) _ _ _;refine aN (D2.item k _ _ _ k2 (D2.frame _ _ _ uB (mV sC Z.t2)) fun y hD tD pD std sD=>bV ?_);have oD:dB hD TO x b c:=sD.extBut _ _ Z.b2 oC;have wD:S3 k hD:=D3.frame _ _ _ (D3.frame _ _ _ wB (mV sC Z.t3)) (mV sD Z.d3);refine aN (mW oD rfl (aN (wF oD fun hF oF sF=>?_)))
 replace oF:dB hF TO x y c:=oF
 refine aN (yX (bV (aN (aN (Fw ?_))))); show wpAny _ _ (Builtin.SmallTypes.nextOf (.ref i3) >>= _) _ _ _;refine aN (D3.item k _ _ _ k3 (D3.frame _ _ _ wD (mV sF Z.t3)) fun v hG tG pG stg sG=>bV ?_);have oG:dB hG TO x y c:=sG.extBut _ _ Z.b3 oF;refine aN (mW oG rfl (aN (wF oG fun hL oL sL=>?_)))
 replace oL:dB hL TO x y v:=oL
 refine aN (yX (bV (bV (aN (mW oL rfl (aN (wpAny_newTuple ?_)))))));have zL:IsZip hL z TI TO .ellipsis:=sL.extBut _ _ Z.a0.symm (sG.extBut _ _ Z.a3.symm (sF.extBut _ _ Z.a0.symm (sD.extBut _ _ Z.a2.symm (sC.extBut _ _ Z.a0.symm (sB.extBut _ _ Z.a1.symm zA)))));have size:hL.objs.size=s.heap.objs.size:=by rw[sL.1,sG.1,sF.1,sD.1,sC.1,sB.1,sA.1]
 have lz:z<hL.objs.size:=bH zL;show wpAny _ _ (Builtin.SmallTypes.ownedTupleHandOut (.ref z) (.ref hL.objs.size) >>= _) _ _ _; unfold Builtin.SmallTypes.ownedTupleHandOut;have zG:IsZip (hL.push { cls:=.type "tuple",data:=.seq #[x,y,v] }) z TI TO .ellipsis:=fB _ zL;refine aN (aN (vq zG (by simp) fun hI zI sI=>?_))
 replace zI:IsZip hI z TI TO (rawInt hL.objs.size):=zI
 refine vq zI (by simp) fun hJ zJ sJ=>bV ⟨_,rfl,?_⟩
 replace zJ:IsZip hJ z TI TO (rawInt hL.objs.size):=zJ
 have up:∀c o,c≠z->hL.get? c=some o->hJ.get? c=some o:=fun c o n e=>sJ.extBut _ _ n (sI.extBut _ _ n (fB _ e));have tJ:dB hJ hL.objs.size x y v:=sJ.extBut _ _ (xu lz) (sI.extBut _ _ (xu lz) (cO _ rfl));have szJ:hJ.objs.size=hL.objs.size+1:=by rw[sJ.1,sI.1,fQ]
 have kB:∀c o,c≠z->c≠TO->c≠i1->c≠i2->c≠i3->s.heap.get? c=some o->hL.get? c=some o:=fun c o n1 n2 n3 n4 n5 e=>sL.extBut _ _ n2 (sG.extBut _ _ n5 (sF.extBut _ _ n2 (sD.extBut _ _ n4 (sC.extBut _ _ n2 (sB.extBut _ _ n3 (sA.extBut _ _ n1 e))))));have u1:S1 (k+1) hL:=D1.frame _ _ _ (D1.frame _ _ _ (D1.frame _ _ _ (D1.frame _ _ _ (D1.frame _ _ _ Zf (mV sC Z.t1)) (mV sD Z.d1)) (mV sF Z.t1)) (mV sG Z.e1)) (mV sL Z.t1);have u2:S2 (k+1) hL:=D2.frame _ _ _ (D2.frame _ _ _ (D2.frame _ _ _ std (mV sF Z.t2)) (mV sG Z.e2)) (mV sL Z.t2);have u3:S3 (k+1) hL:=D3.frame _ _ _ stg (mV sL Z.t3);show Q (.ref hL.objs.size) _;rw[size] at zJ tJ szJ ⊢;exact q x y v hJ tG pB pD pG zJ (up _ _ Z.a0 oL) (D1.frame _ _ _ u1 fun c hc o e=>up c o (fun z'=>Z.z1 (z'▸hc)) e) (D2.frame _ _ _ u2 fun c hc o e=>up c o (fun z'=>Z.z2 (z'▸hc)) e) (D3.frame _ _ _ u3 fun c hc o e=>up c o (fun z'=>Z.z3 (z'▸hc)) e) tJ szJ fun c o n1 n2 n3 n4 n5 e=>up c o n1 (kB c o n1 n2 n3 n4 n5 e)
theorem Hy{Q:Fin->AB->Prop}(Z:YF z TO i1 i2 i3 f1 f2 f3)(D1:Draws prog w A i1 f1 n1 P1 S1)
  (hz:IsZip s.heap z TI TO .none) (hi:dB s.heap TI (.ref i1) (.ref i2) (.ref i3)) (ho:dB s.heap TO a b c) (s1:S1 n1 s.heap)
  (q:∀h' e,(∀c o,c≠z->c≠TO->c≠i1->c≠i2->c≠i3->s.heap.get? c=some o->h'.get? c=some o)->(∃o,h'.get? e=some o/\o.cls=.type "StopIteration")->∀tk,E (.ref e) { s with heap:=h',toks:=tk }) :
  wpAny (model prog w) A (Builtin.«zip.__next__» ⟨[.ref z],[]⟩) Q E s:=by
 show wpAny _ _ (field (.ref z) 2 >>= _) _ _ _; refine aN (fP hz rfl (x:=.bool false) rfl ?_);show wpAny _ _ (field (.ref z) 3 >>= _) _ _ _; refine aN (fP hz rfl (x:=.ref TI) rfl (aN (mW hi rfl ?_)));show wpAny _ _ (Builtin.SmallTypes.ownedTupleIsFree (.ref z) >>= _) _ _ _; unfold Builtin.SmallTypes.ownedTupleIsFree;refine aN (aN (fP hz rfl (x:=.none) rfl (bV ?_))); simp only[if_true];refine aN (yW (aN (fP hz rfl (x:=.ref TO) rfl (aN (vq hz (by simp) fun hA zA sA=>?_)))))
 replace zA:IsZip hA z TI TO .ellipsis:=zA
 refine aN ?_; simp only[Ko,List.zipIdx_nil,za,xN];refine aN (aN (Fw ?_)); show wpAny _ _ (Builtin.SmallTypes.nextOf (.ref i1) >>= _) _ _ _;refine aN (D1.done _ _ _ (D1.frame _ _ _ s1 (mV sA Z.z1)) fun hB x sB hx=>?_);obtain⟨ox,gx,cx⟩:=hx;have zB:IsZip hB z TI TO .ellipsis:=sB _ _ Z.a1.symm zA;have nx:x≠z:=fun y=>by subst y; rw[zB] at gx; cases gx; exact absurd (show Value.type "zip" = Value.type "StopIteration" from cx) ⋯
 exact vq zB (by simp) fun hC _ sC=>q hC x (fun c o m1 _ m3 _ _ e=>sC.extBut _ _ m1 (sB _ _ m3 (sA.extBut _ _ m1 e))) ⟨ox,sC.extBut _ _ nx gx,cx⟩ _
end
abbrev zC3(h:Heap)(t1 t2 t3:Addr):Heap:=Q0 (S9 h t1 t2) t3
abbrev zC4(h:Heap)(t1 t2 t3:Addr):Heap:=(zC3 h t1 t2 t3).push { cls:=.type "tuple",data:=.seq #[.ref h.objs.size,.ref (Q0 h t1).objs.size,.ref (S9 h t1 t2).objs.size] }
abbrev zC5(h:Heap)(t1 t2 t3:Addr):Heap:=(zC4 h t1 t2 t3).push { cls:=.type "tuple",data:=.seq #[.none,.none,.none] }
abbrev WQ(h:Heap)(t1 t2 t3:Addr):Heap:=(zC5 h t1 t2 t3).push { cls:=.type "zip",data:=.fields #[.none,.bool false,.bool false,.ref (zC3 h t1 t2 t3).objs.size,.ref (zC4 h t1 t2 t3).objs.size] }
set_option maxHeartbeats 16000000 in
theorem Uw(t1 t2 t3:Addr)(xs ys zs:Array AA):Meets (Builtin.«zip.__new__» ⟨[.type "zip",.ref t1,.ref t2,.ref t3],[]⟩) (fun _ R s=>s.heap.IsList t1 xs/\s.heap.IsList t2 ys/\s.heap.IsList t3 zs/\R (.ok (.ret (.ref (zC5 s.heap t1 t2 t3).objs.size))) { s with heap:=WQ s.heap t1 t2 t3 }):=
 .of_wp fun prog w A R s z=>by
  obtain⟨hp,g,d,tk,os⟩:=s;obtain⟨hx,hy,hz,z⟩:=z;have sub:=sub_zip;have hX:Heap.IsList (Shared.heap ⟨hp,g,d,tk,os⟩) t1 xs:=hx;have hY:Heap.IsList (Shared.heap ⟨Q0 hp t1,g,d,tk,os⟩) t2 ys:=hy.push _;have hZ:Heap.IsList (Shared.heap ⟨S9 hp t1 t2,g,d,tk,os⟩) t3 zs:=(hz.push _).push _
  wp_walk using zf hX,zf hY,zf hZ
  exact⟨_,rfl,z⟩
theorem Oa{prog:AC}{w:World}{A:Around}{E:AA->AB->Prop}{s:AB}{t1 t2 t3:Addr}{xs ys zs:Array AA}{Q:AA->AB->Prop}(hx:s.heap.IsList t1 xs)(hy:s.heap.IsList t2 ys)(hz:s.heap.IsList t3 zs)
  (q:∀h',IsZip h' (s.heap.objs.size+5) (s.heap.objs.size+3) (s.heap.objs.size+4) .none->dB h' (s.heap.objs.size+3) (.ref s.heap.objs.size) (.ref (s.heap.objs.size+1)) (.ref (s.heap.objs.size+2))->dB h' (s.heap.objs.size+4) .none .none .none ->
   h'.IsListIter s.heap.objs.size t1 0->h'.IsListIter (s.heap.objs.size+1) t2 0->h'.IsListIter (s.heap.objs.size+2) t3 0->(∀c o,s.heap.get? c=some o->h'.get? c=some o)->Q (.ref (s.heap.objs.size+5)) { s with heap:=h' }) :
  wpAny (model prog w) A (call (.type "zip") [.ref t1,.ref t2,.ref t3]) Q E s:=by
 have n1:(Q0 s.heap t1).objs.size=s.heap.objs.size+1:=fQ ..;have n2:(S9 s.heap t1 t2).objs.size=s.heap.objs.size+2:=by rw[fQ,n1]
 have n3:(zC3 s.heap t1 t2 t3).objs.size=s.heap.objs.size+3:=by rw[fQ,n2]
 have n4:(zC4 s.heap t1 t2 t3).objs.size=s.heap.objs.size+4:=by rw[fQ,n3]
 have n5:(zC5 s.heap t1 t2 t3).objs.size=s.heap.objs.size+5:=by rw[fQ,n4]
 have u1:∀{h:Heap}{x:Obj} c o,h.get? c=some o->(h.push x).get? c=some o:=fun c o e=>fB _ e;have v6:(WQ s.heap t1 t2 t3).get? (zC5 s.heap t1 t2 t3).objs.size=some _:=cO _ rfl;have v5:(WQ s.heap t1 t2 t3).get? (zC4 s.heap t1 t2 t3).objs.size=some _:=u1 _ _ (cO _ rfl);have v4:(WQ s.heap t1 t2 t3).get? (zC3 s.heap t1 t2 t3).objs.size=some _:=u1 _ _ (u1 _ _ (cO _ rfl));have v3:(WQ s.heap t1 t2 t3).get? (S9 s.heap t1 t2).objs.size=some _:=u1 _ _ (u1 _ _ (u1 _ _ (cO _ rfl)));have v2:(WQ s.heap t1 t2 t3).get? (Q0 s.heap t1).objs.size=some _:=u1 _ _ (u1 _ _ (u1 _ _ (u1 _ _ (cO _ rfl))));have v1:(WQ s.heap t1 t2 t3).get? s.heap.objs.size=some _:=u1 _ _ (u1 _ _ (u1 _ _ (u1 _ _ (u1 _ _ (cO _ rfl)))));refine callType_new F.called_zip ⋯ (wG _ _ _) (zq _ _ _) (fun x=>qQ x _ _ _) F.entry_zip_new (Uw t1 t2 t3 xs ys zs) ⟨hx,hy,hz,?_⟩
 show _/\_;rw[n3,n4,n5] at v6;rw[n1,n2,n3] at v4;rw[n4] at v5;rw[n1] at v2;rw[n2] at v3;rw[n5];exact⟨⟨_,v6,rfl⟩,q _ v6 v4 v5 ⟨_,v1,rfl,rfl⟩ ⟨_,v2,rfl,rfl⟩ ⟨_,v3,rfl,rfl⟩ fun c o e=>u1 _ _ (u1 _ _ (u1 _ _ (u1 _ _ (u1 _ _ (u1 _ _ e)))))⟩
def Oq(K:Frag)(a b c:Addr):It:=
 ⟨fun i H=>∃xs ys zs x y v,bT K H a xs/\bT K H b ys/\bT K H c zs/\xs[i]?=some x/\ys[i]?=some y/\zs[i]?=some v,
  fun i H u H'=>∃p x y v,H p=none/\u=.ref p/\H'=upd H p (.tup [x,y,v])/\(∀xs,bT K H a xs->xs[i]?=some x)/\(∀ys,bT K H b ys->ys[i]?=some y)/\∀zs,bT K H c zs->zs[i]?=some v,
  fun i H=>∃xs,bT K H a xs/\(∃ys,bT K H b ys)/\(∃zs,bT K H c zs)/\i=xs.length⟩
structure aeX(z TI TO i1 i2 i3 a b c:Addr)(i:Nat)(h:Heap):Prop where
 z:IsZip h z TI TO .none
 p:dB h TI (.ref i1) (.ref i2) (.ref i3)
 o:∃x y v,dB h TO x y v
 l:h.IsListIter i1 a i
 m:h.IsListIter i2 b i
 r:h.IsListIter i3 c i
def Ap6(z TI TO i1 i2 i3:Addr):Prop:=[z,TI,TO,i1,i2,i3].Nodup
theorem ZQ{z TI TO i1 i2 i3 a b c:Addr}(N:Ap6 z TI TO i1 i2 i3)(ha:∀d∈[z,TI,TO,i1,i2,i3],a≠d)(hb:∀d∈[z,TI,TO,i1,i2,i3],b≠d)(hc:∀d∈[z,TI,TO,i1,i2,i3],c≠d):YF z TO i1 i2 i3 [i1,a] [i2,b] [i3,c]:=by
 unfold Ap6 at N;simp only[km,bB,dM,or_false,not_or] at N;simp only[bB,dM,or_false] at ha hb hc;obtain⟨⟨m1,m2,m3,m4,m5⟩,⟨_,_,_,_⟩,⟨p1,p2,p3⟩,⟨r1,r2⟩,r3,_⟩:=N;have A:=fun d h=>(ha d h).symm;have B:=fun d h=>(hb d h).symm;have C:=fun d h=>(hc d h).symm;constructor <;> (try simp only[bB,dM,or_false,not_or]) <;>
  first
  | assumption
  | (apply Ne.symm; assumption)
  | exact⟨by first | assumption | (apply Ne.symm; assumption),A _ (by simp)⟩
  | exact⟨by first | assumption | (apply Ne.symm; assumption),B _ (by simp)⟩
  | exact⟨by first | assumption | (apply Ne.symm; assumption),C _ (by simp)⟩
theorem ap6(n:Nat):Ap6 (n+5) (n+3) (n+4) n (n+1) (n+2):=by
 show([n+5,n+3,n+4,n,n+1,n+2]:List Nat).Nodup;simp
theorem Ms{P:AC}{w:World}{K:Frag}{elts:List Expr}{x1}{tp:Pos}(a b c z TI TO i1 i2 i3:Addr)(N:Ap6 z TI TO i1 i2 i3) :
  Turn P w K (.Tuple elts x1 tp) (Oq K a b c) [z,TI,TO,i1,i2,i3] z (aeX z TI TO i1 i2 i3 a b c) where
 mem:=by simp
 obj:=fun i h st d hd=>by
  obtain⟨g1,g2,⟨x,y,v,g3⟩,g4,g5,g6⟩:=st;simp only[bB,dM,or_false] at hd;rcases hd with rfl | rfl | rfl | rfl | rfl | rfl
  ·exact⟨_,g1,fun v q=>by cases q⟩
  ·exact⟨_,g2,fun v q=>by cases q⟩
  ·exact⟨_,g3,fun v q=>by cases q⟩
  ·exact kL.obj g4
  ·exact kL.obj g5
  ·exact kL.obj g6
 keep:=fun i h h' st k=>by
  obtain⟨g1,g2,⟨x,y,v,g3⟩,g4,g5,g6⟩:=st;exact⟨k z (by simp) _ g1,k TI (by simp) _ g2,⟨x,y,v,k TO (by simp) _ g3⟩,kL.keep g4 fun o e=>k i1 (by simp) o e,kL.keep g5 fun o e=>k i2 (by simp) o e,kL.keep g6 fun o e=>k i3 (by simp) o e⟩
 item:=by
  intro X hP hw hK hc i ae s σ H E I hf st hg;subst hP hw hK;obtain⟨g1,g2,⟨xo,yo,vo,g3⟩,g4,g5,g6⟩:=st;obtain⟨xs,ys,zs,x,y,v,hx,hy,hz,ex,ey,ez⟩:=hg;obtain⟨us,ru,pu⟩:=kL.inv I hx;obtain⟨vs,rv,pv⟩:=kL.inv I hy;obtain⟨ws,yU,pw⟩:=kL.inv I hz;obtain⟨u1,hu,Zh⟩:=ru.get ex;obtain⟨u2,hv,rv'⟩:=rv.get ey;obtain⟨u3,hw,ado⟩:=yU.get ez;have ha:∀d∈[z,TI,TO,i1,i2,i3],a≠d:=fun d hd=>kL.ne I hx (hf d hd);have hb:∀d∈[z,TI,TO,i1,i2,i3],b≠d:=fun d hd=>kL.ne I hy (hf d hd);have hcc:∀d∈[z,TI,TO,i1,i2,i3],c≠d:=fun d hd=>kL.ne I hz (hf d hd);have hh:X.A.in1.handled=none:=I.ok.hd hc;have Z:=ZQ N ha hb hcc;have ty:s.TypeIs (.ref z) "zip" := ⟨_,g1,rfl⟩;have gt:∀{l:List AA}{i:Nat}{u:AA},l[i]?=some u->i<l.toArray.size:=fun h=>by have:=(jF.mp h).1; simpa using this
  unfold pyNext;refine aN (Am (FT (name:=Str.ofString "__next__") ty F.slot_zip_next (zb F.slot_zip_next ty F.entry_zip_next ?_ (F.args_zip_next_1 _))));refine Ma Z (kL.dr hh (ha i1 (by simp)) us.toArray) (kL.dr hh (hb i2 (by simp)) vs.toArray) (kL.dr hh (hcc i3 (by simp)) ws.toArray) g1 g2 g3 (show _/\_ from⟨g4,pu⟩) (show _/\_ from⟨g5,pv⟩) (show _/\_ from⟨g6,pw⟩) (gt hu) (gt hv) (gt hw)
   fun u1' u2' u3' h' tk hu' hv' hw' z1 z2 z3 z4 z5 z6 _ kk=>bV ?_
  have eu:u1'=u1:=by
   have:us[i]?=some u1':=by simpa using hu'
   rw[hu] at this; exact(Option.some.inj this).symm
  have ev:u2'=u2:=by
   have:vs[i]?=some u2':=by simpa using hv'
   rw[hv] at this; exact(Option.some.inj this).symm
  have ew:u3'=u3:=by
   have:ws[i]?=some u3':=by simpa using hw'
   rw[hw] at this; exact(Option.some.inj this).symm
  subst eu ev ew;have fr:H s.heap.objs.size=none:=I.hok.fresh (bw _)
  have I1:Inv X ae σ (upd H s.heap.objs.size (.tup [x,y,v])) { s with heap:=s.heap.push { cls:=.type "tuple",data:=.seq #[u1',u2',u3'] },toks:=tk }:=
   I.laid (t':=tk) (fun b v z=>fB _ z) (bw _) ⟨(by show 3<=sizeLine; decide),[u1',u2',u3'],.cons Zh (.cons rv' (.cons ado .nil)),⟨_,cO _ rfl,rfl,_,rfl⟩⟩
  have lt:∀d∈[z,TI,TO,i1,i2,i3],d<s.heap.objs.size:=fun d hd=>by
   simp only[bB,dM,or_false] at hd;rcases hd with rfl | rfl | rfl | rfl | rfl | rfl
   ·exact bH g1
   ·exact bH g2
   ·exact bH g3
   ·obtain⟨o,e,_⟩:=kL.obj g4; exact bH e
   ·obtain⟨o,e,_⟩:=kL.obj g5; exact bH e
   ·obtain⟨o,e,_⟩:=kL.obj g6; exact bH e
  have f1:∀d∈[z,TI,TO,i1,i2,i3],fD X ae (upd H s.heap.objs.size (.tup [x,y,v])) d:=fun d hd=>⟨by rw[aH (dJ (lt d hd))]; exact(hf d hd).1,(hf d hd).2⟩
  have I2:Inv X ae σ (upd H s.heap.objs.size (.tup [x,y,v])) { s with heap:=h',toks:=tk }:=I1.gR (t':=tk) (fun d o nc e=>by
   have m:∀d'∈[z,TI,TO,i1,i2,i3],d≠d':=fun d' hd y=>nc (y▸hd);by_cases y:d=s.heap.objs.size
   ·subst y;rw[cO _ rfl] at e;cases e;exact z6
   ·rcases Heap.get?_push_cases e with w | w
    ·exact absurd w.1 y
    ·exact kk d o (m z (by simp)) (m TO (by simp)) (m i1 (by simp)) (m i2 (by simp)) (m i3 (by simp)) w) f1
  have N':=N;unfold Ap6 at N';simp only[km,bB,dM,or_false,not_or] at N';obtain⟨⟨m1,m2,m3,m4,m5⟩,⟨q1,q2,q3,q4⟩,_⟩:=N';have Ro:dB h' TI (.ref i1) (.ref i2) (.ref i3):=kk _ _ (Ne.symm m1) q1 q2 q3 q4 g2;refine⟨_,rfl,wpAny_letOwnedTupleGo_zip z1 fun h2 zz sb=>⟨.ref s.heap.objs.size,_,I2.gR (fp:=[z,TI,TO,i1,i2,i3]) (t':=tk) (fun c o nc e=>sb.extBut c o (fun y=>nc (by simp[y])) e) f1,rfl,⟨_,x,y,v,fr,rfl,rfl,fun xs' h=>by rw[kL.inj I h hx]; exact ex,fun ys' h=>by rw[kL.inj I h hy]; exact ey,fun O1 h=>by rw[kL.inj I h hz]; exact ez⟩,⟨zz,sb.extBut _ _ (Ne.symm m1) Ro,⟨_,_,_,sb.extBut _ _ (Ne.symm m2) z2⟩,?_,?_,?_⟩,fun c hc=>(f1 c hc).1⟩⟩
  ·exact kL.keep z3.1 fun o e=>sb.extBut i1 o (Ne.symm m3) e
  ·exact kL.keep z4.1 fun o e=>sb.extBut i2 o (Ne.symm m4) e
  ·exact kL.keep z5.1 fun o e=>sb.extBut i3 o (Ne.symm m5) e
 done:=by
  intro X hP hw hK hc i ae s σ H E I hf st hg;subst hP hw hK;obtain⟨g1,g2,⟨xo,yo,vo,g3⟩,g4,g5,g6⟩:=st;obtain⟨xs,hx,⟨ys,hy⟩,⟨zs,hz⟩,hl⟩:=hg;obtain⟨us,ru,pu⟩:=kL.inv I hx;have ha:∀d∈[z,TI,TO,i1,i2,i3],a≠d:=fun d hd=>kL.ne I hx (hf d hd);have hb:∀d∈[z,TI,TO,i1,i2,i3],b≠d:=fun d hd=>kL.ne I hy (hf d hd);have hcc:∀d∈[z,TI,TO,i1,i2,i3],c≠d:=fun d hd=>kL.ne I hz (hf d hd);have hh:X.A.in1.handled=none:=I.ok.hd hc;have l1:=ru.length;have ty:s.TypeIs (.ref z) "zip" := ⟨_,g1,rfl⟩;unfold pyNext;refine aN (Am (FT (name:=Str.ofString "__next__") ty F.slot_zip_next (zb F.slot_zip_next ty F.entry_zip_next ?_ (F.args_zip_next_1 _))));refine Hy (ZQ N ha hb hcc) (kL.dr hh (ha i1 (by simp)) us.toArray) g1 g2 g3 (show _/\_ from⟨by rw[show us.toArray.size=i by simp; omega]; exact g4,pu⟩) fun h' e k hx tk=>?_
  obtain⟨o,g,hc'⟩:=hx;refine aN (wpAny_isInstance (T:="StopIteration") (b:=true) ⟨o,g,hc'⟩ isSubtype_stop (bV ⟨rfl,I.gR (fp:=[z,TI,TO,i1,i2,i3]) (t':=tk) (fun c o nc e=>?_) hf⟩));have m:∀d∈[z,TI,TO,i1,i2,i3],c≠d:=fun d hd y=>nc (y▸hd);exact k c o (m z (by simp)) (m TO (by simp)) (m i1 (by simp)) (m i2 (by simp)) (m i3 (by simp)) e
 self:=fun _ _ _ _ _ st h=>Gg st.z h
section
variable{X:Cx}
def Wc(K:Frag)(ta:TA):TI:=fun σ H R=>ta σ H fun vs H1=>∃a b c,vs=[.ref a,.ref b,.ref c]/\(∃xs,bT K H1 a xs)/\(∃ys,bT K H1 b ys)/\(∃zs,bT K H1 c zs)/\R (Oq K a b c) H1
theorem Ub{K:Frag}{e e' e'':Expr}{elts:List Expr}{x1}{tp p pos:Pos}{ta:TA}(hK:X.K=K)(hm:X.mg "zip" = none)(ha:PA X [e,e',e''] ta)(hg: ~~~(Gl X "zip"))(h1: ~~~(bO e=true))(h2: ~~~(bO e'=true))(h3: ~~~(bO e''=true)) :
  PI X (.Tuple elts x1 tp) (.Call (.Name "zip" p) [e,e',e''] [] pos) (Wc K ta):=by
 subst hK;symm;intro R I h;refine vm (iw I hg hm JQ ?_ ⋯ ⋯)
 refine PyProof.Rows.callWith_type1 (cz (ha pos ae s σ H _ I h) fun us s1 ⟨vs,H1,I1,r1,q1⟩=>?_) (bW h1) (b8 (es:=[e',e'']) (by simp[h2,h3]))
 obtain⟨a,b,c,rfl,⟨xs,hx⟩,⟨ys,hy⟩,⟨zs,hz⟩,q⟩:=q1;obtain⟨u,r,rfl,ru,r1⟩:=r1.un;obtain⟨v,w,rfl,rv,yU⟩:=r1.two;cases ru;cases rv;cases yU;obtain⟨us,_,pu,_⟩:=I1.list hx;obtain⟨ws,_,pw,_⟩:=I1.list hy;obtain⟨vs,_,pv,_⟩:=I1.list hz;refine Oa pu.isList pw.isList pv.isList fun h' hz' hp ho h1 h2 h3 kk=>?_;have I2:Inv X ae σ H1 { s1 with heap:=h' }:=I1.kept (t':=s1.toks) kk
 have fk:∀n,fD X ae H1 (s1.heap.objs.size+n):=fun n=>I1.uh (Ar _ _) (I1.hok.fresh (Ar _ _));refine Gg hz' ⟨s1.heap.objs.size+5,_,_,Oq X.K a b c,H1,rfl,I2,Ms a b c (s1.heap.objs.size+5) (s1.heap.objs.size+3) (s1.heap.objs.size+4) s1.heap.objs.size (s1.heap.objs.size+1) (s1.heap.objs.size+2) (ap6 _),⟨hz',hp,⟨_,_,_,ho⟩,h1,h2,h3⟩,fun d hd=>?_,q⟩;simp only[bB,dM,or_false] at hd;rcases hd with rfl | rfl | rfl | rfl | rfl | rfl
 ·exact fk 5
 ·exact fk 3
 ·exact fk 4
 ·exact fk 0
 ·exact fk 1
 ·exact fk 2
end
def Z3L(K:Frag)(g:TG)(tb:TS)(D:Ends)(σ:St)(vs:List V)(H1:Hp):Prop:=∃a b c,vs=[.ref a,.ref b,.ref c]/\(∃xs,bT K H1 a xs)/\(∃ys,bT K H1 b ys)/\(∃zs,bT K H1 c zs)/\∃W:Nat->Nat->St->Hp->Prop,(∃m,W 0 m σ H1)/\∀i m σ H,W i m σ H ->
 ((Oq K a b c).stop i H/\D.nx σ H)\/((Oq K a b c).go i H/\∃N:St->Hp->Prop,(∀σ' H',N σ' H'->∃m',m'<m/\W (i+1) m' σ' H')/\∀x H',(Oq K a b c).Er i H x H'->g x σ H' fun σ2 H2=>tb { D with nx:=N,ct:=N,bk:=D.nx } σ2 H2)
theorem My{K:Frag}{ta:TA}{g:TG}{tb:TS}{D:Ends}{σ:St}{H:Hp}:Ib (Wc K ta) g tb D σ H=ta σ H (Z3L K g tb D σ):=rfl
theorem Z3L.ofN{K:Frag}{g:TG}{tb:TS}{D:Ends}{σ:St}{H:Hp}{a b c:Addr}{xs ys zs:List V}(ha:H a=some (.lst xs))(hb:H b=some (.lst ys))(hc:H c=some (.lst zs))(hn:ys.length=xs.length)(hm:zs.length=xs.length)(Pv:Nat->St->Hp->Prop)(h0:Pv 0 σ H)(hl:∀i σ H',i<=xs.length->Pv i σ H'->H' a=some (.lst xs)/\H' b=some (.lst ys)/\H' c=some (.lst zs))
  (hs:∀i x y v σ H p,xs[i]?=some x->ys[i]?=some y->zs[i]?=some v->Pv i σ H->H p=none->∀N:St->Hp->Prop,(∀σ' H',Pv (i+1) σ' H'->N σ' H')->g (.ref p) σ (upd H p (.tup [x,y,v])) fun σ2 H2=>tb { D with nx:=N,ct:=N,bk:=D.nx } σ2 H2) (hd:∀σ H,Pv xs.length σ H->D.nx σ H):Z3L K g tb D σ [.ref a,.ref b,.ref c] H:=by
 refine⟨a,b,c,rfl,⟨xs,bT.of ha⟩,⟨ys,bT.of hb⟩,⟨zs,bT.of hc⟩,fun i m σ H=>m=xs.length-i/\i<=xs.length/\Pv i σ H,⟨_,rfl,gC _,h0⟩,?_⟩;rintro i m σ H ⟨rfl,hi,p⟩;have q:bT K H a xs:=bT.of (hl i σ H hi p).1;have q2:bT K H b ys:=bT.of (hl i σ H hi p).2.1;have q3:bT K H c zs:=bT.of (hl i σ H hi p).2.2;by_cases hlt:i<xs.length
 ·have hlt':i<ys.length:=by omega
  have aa8:i<zs.length:=by omega
  refine .inr ⟨⟨xs,ys,zs,xs[i],ys[i],zs[i],q,q2,q3,cT hlt,cT hlt',cT aa8⟩,Pv (i+1),fun σ' H' p'=>⟨xs.length-(i+1),∅,rfl,hlt,p'⟩,fun x H' y=>?_⟩
  obtain⟨t,z,z',z'',ht,rfl,rfl,hz,hz',hz''⟩:=y;exact hs i z z' z'' σ H t (hz xs q) (hz' ys q2) (hz'' zs q3) p ht _ fun _ _ h=>h
 ·have e:i=xs.length:=by omega
  subst e;exact .inl ⟨⟨xs,q,⟨ys,q2⟩,⟨zs,q3⟩,rfl⟩,hd σ H p⟩
end _L
namespace _L
open PySem PySem.Spec PyProof.Rows PySem.Builtin PySem.Builtin.ObjectAttr
section
variable{prog:AC}{w:World}{A:Around}{E:AA->AB->Prop}{h:Heap}{g:Array GenState}{d:Drawn}{t:Nat}{os:OsState}
variable{nm q:Str}{C N:Addr}{bs bm bmB:List AA}{hdct:Bool}{sn:List Str}{sub:List AA}{ab:Bool}{col:Option Bool}{dd:Option Addr}{k0 k1 k2 k3 k5:Option AA}{B Bn newId nid initId inN:String}{bmN:List AA}
end
section
variable{prog:AC}{w:World}{A:Around}{E:AA->AB->Prop}{h:Heap}{g:Array GenState}{d:Drawn}{t:Nat}{os:OsState}
variable{nm q:Str}{C N x HE:Addr}{bs bm:List AA}{sn:List Str}{sub:List AA}{ab:Bool}{col:Option Bool}{dd:Option Addr}{k0 k1 k2 k3 k5:Option AA}{newId:String}{name:Str}{v:AA}{K:Frag}
structure acO(h h':Heap)(x:Addr)(o:Obj)(dx:Addr)(name:Str)(v:AA):Prop where
 at_:h'.get? x=some { o with dict:=some dx }
 new:h.get? dx=none
 ns:h'.Ns1 dx (fun y=>if y=name then some v else none)
 keep:∀b u,b≠x->h.get? b=some u->h'.get? b=some u
end
end _L
namespace _L
open PySem PySem.Spec PyProof.Rows PySem.Builtin PySem.Builtin.ObjectAttr
structure ExS(K:Frag)(C HE:Addr)(f:Str):Prop where
 ob:∃nm q N bs sn sub ab col dd k0 k1 k2 k3 k5,K.lookup C=some (excClassObj nm q C N bs (.ref HE::WW) true sn sub ab col dd k0 k1 k2 k3 k5 "ValueError.__new__")
 he:excIn K HE WW "ValueError.__new__" = true
 sa:findIn K (.ref C) "__setattr__" = some (some (.builtin "object.__setattr__"))
 nf:findIn K (.ref C) f=some none
structure ExM(K:Frag)(C HE f:Addr)(fl:Str):Prop where
 s:ExS K C HE fl
 init:findIn K (.ref C) "__init__" = some (some (.ref f))
 own:∃N,(clsIn K C).map (·.ns)=some N/\nsIn K N "__init__" = some (some (.ref f))/\PySem.W.nsOkIn K N=true
 fn:isFn K (.ref f)=true
 kp:keepIn K (.ref C)=true
section
variable{X:Cx}{C HE:Addr}{fl x:Str}{o value:Expr}{ta tv:TE}{pos pos' p:Pos}
end
section
variable{prog:AC}{w:World}{A:Around}{E:AA->AB->Prop}{s:AB}{K:Frag}{x D:Addr}{ox:Obj}{od:Option Obj}
structure ExR(K:Frag)(D:Addr):Prop where
 ga:findIn K (.ref D) "__getattribute__" = some (some (.builtin "BaseException.__getattribute__"))
 gt:findIn K (.ref D) "__getattr__" = some none
 fo:∀od,findObj K D od "__class__" = some (.bind (.builtin "getset_descriptor.__get__") (.builtin "object.__class__"))
 sb:subIn K (.ref D) (.type "BaseException")=some true
 ob:mroIn K D (.type "object")=some true
 cl:(clsIn K D).isSome=true
 hd:hasDictIn K D=true
end
section
variable{X:Cx}{ae:List (Addr×Obj)}{σ:St}{H:Hp}{s:AB}{a C:Addr}{f:Str}{v:V}
end
structure CtX(P:AC)(w:World)(K:Frag)(mg:Str->Option AA)(base:Heap)(k:Nat)(C:Addr)(x:Str)(ps:List Str)(sp:Sp) where
 f:Addr
 fd:FuncData
 j:Nat
 hj:j+1<=k
 HE:Addr
 fl:Str
 G:bF P w K mg base iy j f fd ps sp
 M:ExM K C HE f fl
 b:Binds K fd ps []
 m:mg x=some (.ref C)
section
variable{K:Frag}{C HE f:Addr}{fl:Str}
abbrev FnM(K:Frag)(x qual:Str)(st:Stmt)(f:Addr):Prop:=∃(oc:AA)(od an:Option Addr)(sl:Array (Option AA))(kV dc pm cd ct:AA),K.lookup f=some ⟨oc,od,.func (fnOf x qual (b7 st) (bK st) (aD st) .none kV dc pm an cd ct),sl⟩/\codeIn K cd qual=true/\keepIn K (.ref f)=true
end
end _L
namespace _L
open PySem PySem.Spec PyProof.Rows
structure Ot(K:Frag)(C:Addr)(m qual:Str)(st:Stmt)(f:Addr):Prop where
 me:Meth K C m f
 fn:FnM K m qual st f
theorem Ot.mk'{K:Frag}{C:Addr}{m qual:Str}{st:Stmt}{f:Addr}{oc:AA}{od an:Option Addr}{sl:Array (Option AA)}{kV dc pm cd ct:AA}(a:findIn K (.ref C) m=some (some (.ref f)))(i:isFn K (.ref f)=true)(l:K.lookup f=some ⟨oc,od,.func (fnOf m qual (b7 st) (bK st) (aD st) .none kV dc pm an cd ct),sl⟩)(c:codeIn K cd qual=true)(k:keepIn K (.ref f)=true):Ot K C m qual st f:=⟨⟨a,i,k⟩,⟨oc,od,an,sl,kV,dc,pm,cd,ct,l,c,k⟩⟩
structure YQ(K:Frag)(C:Addr)(m qual:Str)(st:Stmt)(ps:List Str) where
 f:Addr
 fd:FuncData
 F:jL K m qual st f fd
 b:Binds K fd ps []
 M:Meth K C m f
section
variable{K:Frag}{h:Heap}{mg:Str->Option AA}{C:Addr}
theorem Ot.has{m qual:Str}{st:Stmt}{f:Addr}(e:Ot K C m qual st f){ps:List Str}(H:∀(kV doc pm:AA) (an:Option Addr) (cdv ct:AA) (us:List AA),us.length=ps.length->bindArgs (fnOf m qual (b7 st) (bK st) (aD st) .none kV doc pm an cdv ct) ⟨us,[]⟩=pure (ps.zip us)):Nonempty (YQ K C m qual st ps):=by
 obtain⟨M,oc,od,an,sl,kV,dc,pm,cd,ct,l,c,k⟩:=e;have F:=JB (st:=st) l c k;exact⟨⟨_,_,F,F.binds H,M⟩⟩
def YQ.ct{m qual:Str}{st:Stmt}{ps:List Str}{k:Nat}{sp:Sp}(h:YQ K C m qual st ps)(c:Hv K C)(P:AC)(w:World)(base:Heap)(G:bF P w K mg base iy k h.f h.fd ps sp):Ek P w K mg base k C m ps sp:=⟨h.f,h.fd,G,h.M,c,h.b⟩
theorem Wz.ns{x:Str}{st:Stmt}{f T:Addr}{i:Int}(e:Wz K x st f T i):nsIn K mainGlobals x=some (some (.ref f)):=by
 obtain⟨_,_,_,_,_,_,_,_,_,_,_,_,_,_,a,_⟩:=e;exact a
structure ZD(K:Frag)(x qual:Str)(st:Stmt)(C:Addr):Prop where
 ns:nsIn K mainGlobals x=some (some (.ref C))
 c:Hv K C
 init:∃f,Mk K C f/\∃(oc oT:AA)(od an dT:Option Addr)(sl sT:Array (Option AA))(kV dc pm cd ct:AA)(T:Addr)(nT:Nat),K.lookup f=some ⟨oc,od,.func (fnOf "__init__" qual (b7 st) (bK st) (aD st) (.ref T) kV dc pm an cd ct),sl⟩/\codeIn K cd qual=true/\keepIn K (.ref f)=true/\K.lookup T=some ⟨oT,dT,.seq #[.none] nT,sT⟩
theorem ZD.mk'{x qual:Str}{st:Stmt}{f T:Addr}{oc oT:AA}{od an dT:Option Addr}{sl sT:Array (Option AA)}{kV dc pm cd ct:AA}{nT:Nat}(a:nsIn K mainGlobals x=some (some (.ref C)))(a1:findIn K (.ref C) "__init__" = some (some (.ref f)))(i:isFn K (.ref f)=true)
  (l:K.lookup f=some ⟨oc,od,.func (fnOf "__init__" qual (b7 st) (bK st) (aD st) (.ref T) kV dc pm an cd ct),sl⟩) (c:codeIn K cd qual=true) (k:keepIn K (.ref f)=true) (e:K.lookup T=some ⟨oT,dT,.seq #[.none] nT,sT⟩)
  (pg:plainGet K C Str.empty=true) (hd:hasDictIn K C=true) (po:plainOver K C=true) (sa:findIn K (.ref C) "__setattr__" = some (some (.builtin "object.__setattr__"))) (mk:makesIn K C=true) (kc:keepIn K (.ref C)=true):ZD K x qual st C:=
 ⟨a,⟨pg,hd,po,sa⟩,f,⟨mk,a1,i,kc⟩,oc,oT,od,an,dT,sl,sT,kV,dc,pm,cd,ct,T,nT,l,c,k,e⟩
structure YT(K:Frag)(mg:Str->Option AA)(x qual:Str)(st:Stmt)(ps:List Str)(C:Addr) where
 f:Addr
 fd:FuncData
 T:Addr
 F:J1 K "__init__" qual st f fd T
 b:Binds K fd ps []
 bd:Binds K fd ps [.none]
 M:Mk K C f
 m:mg x=some (.ref C)
theorem ZD.has{x qual:Str}{st:Stmt}(e:ZD K x qual st C)(X:K.In h)(G:h.Ns mainGlobals mg){ps:List Str}
  (H:∀(T:Addr)(kV doc pm:AA)(an:Option Addr)(cdv ct:AA)(us:List AA),(us++[]).length=ps.length->∃k,bindArgs (fnOf "__init__" qual (b7 st) (bK st) (aD st) (.ref T) kV doc pm an cdv ct) ⟨us,[]⟩=seqItems? (.ref T) >>= k/\k (some #[.none])=pure (ps.zip (us++[])))
  (H':∀(T:Addr)(kV doc pm:AA)(an:Option Addr)(cdv ct:AA)(us:List AA),(us++[Value.none]).length=ps.length->∃k,bindArgs (fnOf "__init__" qual (b7 st) (bK st) (aD st) (.ref T) kV doc pm an cdv ct) ⟨us,[]⟩=seqItems? (.ref T) >>= k/\k (some #[.none])=pure (ps.zip (us++[.none]))):Nonempty (YT K mg x qual st ps C):=by
 obtain⟨a,cl,f,M,oc,oT,od,an,dT,sl,sT,kV,dc,pm,cd,ct,T,nT,l,c,k,e⟩:=e;have F:J1 K "__init__" qual st f _ T:=⟨⟨_,_,_,_,_,_,_,_,_,rfl,l,c⟩,k,⟨_,_,e,rfl⟩⟩;exact⟨⟨_,_,_,F,F.binds (H T),F.binds (H' T),M,mg_of X G a⟩⟩
def YT.ctE{x qual:Str}{st:Stmt}{ps:List Str}{k:Nat}{sp:Sp}(h:YT K mg x qual st ps C)(P:AC)(w:World)(base:Heap)(G:bF P w K mg base (wy P w) k h.f h.fd ps sp):YW P w K mg base (k+1) C x ps sp:=⟨h.f,h.fd,k,bw _,G,h.M,h.b,h.bd,h.m⟩
end
end _L
namespace _K
open PySem _L
def top(i:Nat):Stmt:=PySem.Challenge.pw_waithands_k40_great_yards.main.body.getD i (.Pass ⟨0,0,0,0⟩)
abbrev tW:Stmt:=top 9
abbrev Ip:Stmt:=top 11
abbrev nO:Stmt:=top 12
abbrev qw:Stmt:=top 13
abbrev jP:Stmt:=top 16
abbrev qy:Stmt:=top 17
abbrev Ir:Stmt:=top 19
abbrev gF:Stmt:=top 21
abbrev nP:Stmt:=top 22
abbrev jO:Stmt:=top 23
abbrev nM:Stmt:=top 24
abbrev jQ:Stmt:=top 32
abbrev jR:Stmt:=top 33
abbrev i_:Stmt:=top 34
abbrev iZ:Stmt:=top 35
abbrev w6:Stmt:=top 37
abbrev xj:Stmt:=top 38
abbrev tO:Stmt:=top 39
abbrev Ci:Stmt:=top 40
abbrev tQ:Stmt:=top 41
abbrev xg:Stmt:=top 42
abbrev tU:Stmt:=top 43
abbrev xf:Stmt:=top 44
abbrev tV:Stmt:=top 45
abbrev tR:Stmt:=top 46
abbrev iW:Stmt:=top 47
abbrev iY:Stmt:=top 48
abbrev wZ:Stmt:=top 49
abbrev gG:Stmt:=inClass (top 31) 0
abbrev lH:Stmt:=inClass (top 31) 1
abbrev fX:Stmt:=inClass (top 31) 2
abbrev fu:Stmt:=inClass (top 31) 3
abbrev jT:Stmt:=inClass (top 31) 6
abbrev jb:Stmt:=inClass (top 31) 8
abbrev jU:Stmt:=inClass (top 31) 9
abbrev jV:Stmt:=inClass (top 31) 10
abbrev lG:Stmt:=inClass (top 31) 14
structure Bi(mg:Str->Option AA):Prop where
 all:mg "all" = none
 isinstance:mg "isinstance" = none
 str:mg "str" = none
 len:mg "len" = none
 max:mg "max" = none
 min:mg "min" = none
 sum:mg "sum" = none
 list:mg "list" = none
 reversed:mg "reversed" = none
 range:mg "range" = none
 tuple:mg "tuple" = none
 enumerate:mg "enumerate" = none
 set:mg "set" = none
 abs:mg "abs" = none
 int:mg "int" = none
 zip:mg "zip" = none
 dict:mg "dict" = none
structure Co(K:Frag)(mg:Str->Option AA):Prop where
 abE:GT2 K mg "WHATS" VB
 OVER:Gs mg "OVER" "over"
 UNDER:Gs mg "UNDER" "under"
 EACH:Gs mg "EACH" "each"
 LETTERS:Gs mg "LETTERS" "abcdefghijklmnopqrstuvwxyz"
 Ec:Gi mg "MOST_LETTERS" 8
 JZ:Gi mg "MOST_HANDS" 12
 Ea:Gi mg "TRIPLES_SEEN" 3
 JX:Gi mg "MOST_POSTS" 5
local macro_rules | `(tactic| walk_at "c")=>`(tactic| exact⟨rfl,rfl,rfl,by decide +kernel,rfl,by decide +kernel,by decide +kernel⟩)
local macro_rules | `(tactic| ext)=>`(tactic| simp only[_L.start,gH,vd,fU,mX,Nat.reduceAdd,Nat.reduceSub,List.replicate,Fy,vg,qF,
 lF,yQ,Ex,wK,uE,qu,dh,uH,jE,lJ,jc,lN,if_true,if_false,tY,Fv,xM,lM,lL,jW,qz,qD,nU,lO,lQ,jd,lK,qC,xr,tC,Ia,VG,IK,rI,rU,q_,Ff,VL,Ez,uJ,H_,wL,Pu,iU,Ov,iz,qt,tB,nj,VJ,jy,uA,GX,Ey,EY,HY,uG,uy,Tt,Fe,uD,uI,U6,uF,E_])
section
variable{P:AC}{w:World}{K:Frag}{mg:Str->Option AA}{base:Heap}{f:Addr}{fd:FuncData}{k:Nat}
theorem Gw{X:Cx}:m7 X (binaryOp .FloorDiv) (rI (fun _ j=>0<j/\j<10 ^ 60) fun i j=>.int (i / j)):=opI fun i j _ _ _ _ _ hc q=>by
 have h1:(0:Int)<j:=hc.1;have h2:j<10 ^ 60:=hc.2;refine PyProof.Rows.floordiv_int ∅ (by rw[Int.fdiv_eq_ediv_of_nonneg i ∅]; exact q) (.inl (PyProof.noPylong_of_log2 ?_))
 have:j.natAbs<10 ^ 60:=by omega
 by_cases z:j.natAbs=0
 ·omega
 ·have h3:j.natAbs<2 ^ 1000:=FW this (by decide +kernel)
  have:=(Nat.log2_lt z).mpr h3;omega
structure jx where
 w:Str
 s:Nat
 g:Str
 n:Int
 t:Int
def Ck(r:jx):PyData:=.tuple [.str r.w,.int r.s,.str r.g,.int r.n,.int r.t]
def uM(rs:List jx):PyData:=.tuple (rs.map Ck)
def nQ(ir:List (List jx)):PyData:=.tuple (ir.map uM)
structure yK(r:jx):Prop where
 w:r.w∈(["come","done","wait"]:List Str)
 s:1<=r.s/\r.s<=4
 n:0<=r.n/\r.n<=1000000000000
 e:r.g = "each" -> 1<=r.n
def j9(l:List Int):PyData:=.tuple (l.map .int)
def HX(eE:List (List Int)):PyData:=.tuple (eE.map j9)
structure qT(eE:List (List Int)):Prop where
 n:eE.length=4
 l:∀x∈eE,x.length=3
def Ab(w:Str)(s:Nat)(eE:List (List Int)):Int:=((eE.take s).map fun l=>l.getD (jN w) 0).sum
def says(r:jx)(h:Int)(eE:List (List Int)):Option Int:=
 if r.g = "each" then some ((Ab r.w r.s eE+r.n*r.s-1) / (r.n*r.s))
 else if(r.g = "over" /\ Ab r.w r.s eE>r.n*r.s)\/(r.g = "under" /\ Ab r.w r.s eE<r.n*r.s) then some (h+r.t) else none
def V0:Option Int->V
 | none=>.non
 | some i=>.int i
def mJ(h:Int)(eE:List (List Int)):List jx->Int
 | []=>h
 | r::rs=>match says r h eE with
  | some i=>i
  | none=>mJ h eE rs
def topOf(h:Int):List Int->Int
 | []=>h
 | b::r=>pN b r
def ux(ir:List (List jx))(l m h:Int)(eE:List (List Int)):Int:=
 let x:=topOf h (ir.map (mJ h eE))
 let y:=if l>x then l else x
 if m<y then m else y
theorem Mp(w:Str):jN w<3:=by
 unfold jN;split
 ·decide
 ·split <;> decide
theorem aY{H:Hp}{ds:List PyData}{v:V}(h:At H (.tuple ds) v):∃a xs,v=.ref a/\H a=some (.tup xs)/\aa H ds xs:=by unfold At at h; exact h
theorem aa.aJ{H:Hp}{d:PyData}{ds:List PyData}{xs:List V}(h:aa H (d::ds) xs):∃x r,xs=x::r/\At H d x/\aa H ds r:=by unfold aa at h; exact h
theorem aa.fH{H:Hp}{xs:List V}(h:aa H [] xs):xs=[]:=by unfold aa at h; exact h
theorem cF{G:Hp}:∀{cs:List Int}{xs:List V},aa G (cs.map PyData.int) xs->xs=cs.map V.int
 | [],xs,h=>by unfold aa at h; exact h
 | c::cs,xs,h=>by
  obtain⟨x,r,rfl,h1,h2⟩:=aa.aJ h;unfold At at h1;rw[h1,cF h2]; rfl
theorem dD{H:Hp}:∀cs:List Int,aa H (cs.map .int) (cs.map V.int)
 | []=>aa.nil
 | c::cs=>aa.cons (At.int c) (dD cs)
theorem row_shape{H:Hp}{r:jx}{v:V}(h:At H (Ck r) v):∃a,v=.ref a/\H a=some (.tup [.str r.w,.int r.s,.str r.g,.int r.n,.int r.t]):=by
 obtain⟨a,xs,rfl,h1,h2⟩:=aY h;obtain⟨x1,_,rfl,a1,h2⟩:=aa.aJ h2;obtain⟨x2,_,rfl,a2,h2⟩:=aa.aJ h2;obtain⟨x3,_,rfl,a3,h2⟩:=aa.aJ h2;obtain⟨x4,_,rfl,a4,h2⟩:=aa.aJ h2;obtain⟨x5,_,rfl,a5,h2⟩:=aa.aJ h2;cases aa.fH h2;unfold At at a1 a2 a3 a4 a5;subst a1 a2 a3 a4 a5;exact⟨a,rfl,h1⟩
theorem Dw{K:Frag}{js:List Nat}{a:Addr}{xs:List V}{ds:List PyData}{f:Nat->Int}{tl te:TE}{σ:St}{H:Hp}{Q:VK}(hl:∀R:VK,R (.ref a) H->tl σ H R)(ha:H a=some (.tup xs))(hd:aa H ds xs)(hz:ds.length<=sizeLine)
  (step:∀(i:Nat) x d H',aK H H'->ds[i]?=some d->At H' d x->∀R:VK,(∀dF,aK H' dF->R (.int (f i)) dF)->te (some x::bQ js σ) H' R)
  (fin:∀acc H',aK H H'->H' acc=some (.lst (((List.range ds.length).map f).map V.int))->Q (.ref acc) H'):iB js (GQ K tl) te σ H Q:=by
 refine hl _ ⟨a,rfl,⟨xs,fK.of ha⟩,fun acc hacc=>?_⟩;have hlen:=hd.length;refine⟨fun i m ys H2=>m=ds.length-i/\i<=ds.length/\ys=((List.range i).map f).map V.int/\aK H H2/\H2 acc=some (.lst ys),⟨_,rfl,gC _,rfl,aO hacc _,aA⟩,?_⟩;intro i m ys H2 yL; refine xP yL fun LR hi cL sm hy=>?_; clear yL; subst LR; subst cL;have ht:fK K H2 a xs:=fK.of (sm _ _ ha);by_cases hlt:i<ds.length
 ·refine .inr ⟨⟨xs,xs[i]'∅,ht,cT ∅⟩,fun x H3 y=>?_⟩
  obtain⟨e,y⟩:=y;subst e;obtain⟨d,e1,e2⟩:=hd.get (y xs ht);refine step i x d _ sm e1 (e2.mono sm) _ fun H4 s4=>⟨s4 _ _ hy,?_,ds.length-(i+1),∅,rfl,hlt,?_,?_,aA⟩
  ·rw[bN,bN,List.length_range]; omega
  ·rw[List.range_succ]; simp
  ·refine fun b o q=>?_;have nb:b≠acc:=cD q hacc;rw[aH nb];exact s4 _ _ (sm _ _ q)
 ·have e:i=ds.length:=by omega
  subst e;exact .inl ⟨⟨xs,ht,∅⟩,fin _ _ sm hy⟩
def CT(K:Frag)(js:List Nat)(te:TE)(σ:St)(Q:VK)(x:V)(H1:Hp):Prop:=iB js (GQ K (fun _ H R=>R x H)) te σ H1 Q
theorem tE{K:Frag}{js:List Nat}{tl te:TE}{σ:St}{H:Hp}{Q:VK}:iB js (GQ K tl) te σ H Q=tl σ H (CT K js te σ Q):=rfl
def Ik:Sp:=fun vs H Q _=>∃(v u:V)(h:Int)(r:jx)(eE:List (List Int)),vs=[v,.int h,u]/\At H (Ck r) v/\At H (HX eE) u/\yK r/\qT eE/\∀H',aK H H'->Q (V0 (says r h eE)) H'
theorem ae5.of{v u:V}{h:Int}{r:jx}{eE:List (List Int)}{H:Hp}{Q:VK}{E:XK}(a1:At H (Ck r) v)(a2:At H (HX eE) u)(h1:yK r)(h2:qT eE)(q:∀H',aK H H'->Q (V0 (says r h eE)) H'):Ik ([v,.int h,u]++[]) H Q E:=⟨v,u,h,r,eE,rfl,a1,a2,h1,h2,q⟩
theorem yR{eE:List (List Int)}{w:Str}{s:Nat}:((List.range (eE.take s).length).map fun i=>((eE.take s).getD i []).getD (jN w) 0).sum=Ab w s eE:=by
 unfold Ab
 congr 1
 generalize eE.take s=l
 apply List.ext_getElem
 ·simp
 ·intro i h1 h2;simp at h1 h2;simp[ig,h2]
theorem uK:aV ["row","hands","newest","what","span","sign","number","step","place","total","mark"] AD (aD qw):=(by walk_at "c")
theorem Gx(F:jL K "row_says" "row_says" qw f fd)(B:Bi mg)(O:Co K mg):bF P w K mg base iy (k+1) f fd AD Ik:=by
 refine F.ok uK (hbody:=(0:))
 have ze:=h; clear h; refine mK ze fun v u h r eE BK a1 a2 hR hN q=>?_; clear ze; subst BK;have ND:=uK.nd;refine⟨_,(aq (dN (pv 0) (bR (K:=K) (n:=5) rfl rfl (aB (aC (i:=3)) (aB (aC (i:=4)) (aB (aC (i:=5)) (aB (aC (i:=6)) (aB (aC (i:=7)) bC))))))) (aq (aR (i:=8) (lW (K:=K) rfl PySem.F.plainAttrs_tuple PySem.F.slot_tuple_index PySem.F.type_tuple_index (Nv (K:=K) rfl) (Ud (K:=K) rfl O.abE) (ak (pv 3) aj))) (aq (aR (i:=9) (pb (dH rfl) B.sum j6 (ak (cX (N':=["triple","place"]) (js:=[8]) rfl (rN (K:=K) rfl (cY jz (pv 2) eU (eQ (pv 4)))) sX.mk1 rfl ⋯ rfl (fun fp s' H'=>(aU aP (pv 0) (pv 1) (fun _ _=>rfl)))) aj))) (aq (aR (i:=10) (aL jg (pv 6) (pv 4))) (aq (cN (bf jh (pv 5) (CP O.EACH) (bc _)) (aF (aZ (aL Gw (aL gk (aL bu (pv 9) (pv 10)) ao) (pv 10)))) bI) (aq (cN (PW.pt (rK (PW.pt (Cw (bf jh (pv 5) (CP O.OVER) (bc _)) (vV (bf Gv (pv 9) (pv 10) (bc _))))) (lU (PW.pt (Cw (bf jh (pv 5) (CP O.UNDER) (bc _)) (vV (bf uQ (pv 9) (pv 10) (bc _)))))))) (aF (aZ (aL bu (pv 1) (pv 7)))) bI) (aF (aZ ou)))))))),?_⟩
 obtain⟨a,rfl,h1⟩:=row_shape a1;refine bG (aY a2) fun b xs cL h2 h3=>?_; subst cL;ext;refine⟨a,_,rfl,fK.of h1,rfl,?_⟩;ext;intro aw ho hw;refine⟨.inr (.inl ⟨rfl,ho⟩),aw,r.w,rfl,hw _,rfl,hR.w,?_⟩;show iB _ _ _ _ _ _;rw[tE];ext;refine⟨b,xs,rfl,h2,fun p H1 s1 e1=>?_⟩;rw[yD ∅,xF] at e1
 have h3':aa H1 ((eE.take r.s).map j9) (xs.take r.s):=by rw[List.map_take]; exact(h3.take r.s).mono s1
 have hs4:=hR.s;have htl:(eE.take r.s).length<=4:=by rw[kI]; omega
 refine Dw (a:=p) (f:=fun i=>((eE.take r.s).getD i []).getD (jN r.w) 0) (fun R hR=>hR) e1 h3' (nY (aQ (by rw[bN]; omega))) (fun i x d H' s' ed hx R hR'=>?_) (fun acc H' s' hl=>?_)
 ·rw[cA] at ed;obtain⟨l,el,rfl⟩:=Ku.mp ed;have l3:l.length=3:=hN.l l (FQ (dC el));obtain⟨c,ys,rfl,g1,g2⟩:=aY hx;cases cF g2;show Ia _ _ _ [some _,some (.int (jN r.w:Nat))] H' R;ext;have hw:=Mp r.w;refine Ix.tup g1 (v:=.int (l.getD (jN r.w) 0)) (a_ (by rw[cA,cT ∅,ig,cT ∅]; rfl)) ?_
  have:=hR' H' (aK.refl H');have eg:(eE.take r.s).getD i []=l:=by rw[ig,el]; rfl
  rw[eg] at this;exact this
 ·have sm:=s1.trans s';rw[bN] at hl;refine⟨acc,_,rfl,.inl hl,.inl (by have:=hR.n; omega),?_⟩
  rw[yR];have q1:=q H' sm;unfold says at q1;refine dW (fun c1=>?_) (fun c1=>?_)
  ·have c1':=Cr c1;rw[bh c1'] at q1;have h1n:=hR.e c1';have hpos:0<r.n*(r.s:Int):=Int.mul_pos ∅ ∅
   have hup:r.n*(r.s:Int)<=1000000000000*4:=Int.mul_le_mul hR.n.2 ∅ ∅ ⋯
   exact⟨⟨hpos,Int.lt_of_le_of_lt hup ⋯⟩,q1⟩
  ·have c1':=MT c1;rw[aX c1'] at q1;generalize Ab r.w r.s eE=tot at q1 ⊢;generalize r.n*(r.s:Int)=mark at q1 ⊢;by_cases o1:r.g = "over"
   ·have u1:¬r.g = "under" := by rw[o1]; decide +kernel
    rw[rH o1,bh rfl];by_cases o2:mark<tot
    ·rw[rH o2,bh rfl];rw[bh (.inl ⟨o1,o2⟩)] at q1; exact q1
    ·rw[mY o2,aX ⋯,mY u1,aX ⋯]
     rw[aX (fun z=>by rcases z with z | z; exact o2 z.2; exact u1 z.1)] at q1; exact q1
   ·rw[mY o1,aX ⋯]
    by_cases u1:r.g = "under"
    ·rw[rH u1,bh rfl];by_cases o2:tot<mark
     ·rw[rH o2,bh rfl];rw[bh (.inr ⟨u1,o2⟩)] at q1; exact q1
     ·rw[mY o2,aX ⋯]
      rw[aX (fun z=>by rcases z with z | z; exact o1 z.1; exact o2 z.2)] at q1; exact q1
    ·rw[mY u1,aX ⋯]
     rw[aX (fun z=>by rcases z with z | z; exact o1 z.1; exact u1 z.1)] at q1; exact q1
def Xd:Sp:=fun vs H Q _=>∃(v u:V)(h:Int)(rs:List jx)(eE:List (List Int)),vs=[v,.int h,u]/\At H (uM rs) v/\At H (HX eE) u/\(∀r∈rs,yK r)/\qT eE/\∀H',aK H H'->Q (.int (mJ h eE rs)) H'
theorem Rw.of{v u:V}{h:Int}{rs:List jx}{eE:List (List Int)}{H:Hp}{Q:VK}{E:XK}(a1:At H (uM rs) v)(a2:At H (HX eE) u)(h1:∀r∈rs,yK r)(h2:qT eE)(q:∀H',aK H H'->Q (.int (mJ h eE rs)) H'):Xd ([v,.int h,u]++[]) H Q E:=⟨v,u,h,rs,eE,rfl,a1,a2,h1,h2,q⟩
theorem rE:aV ["rule","hands","newest","row","said"] AE (aD nO):=(by walk_at "c")
theorem Dc(F:jL K "rule_wish" "rule_wish" nO f fd)(qP:Ct P w K mg base k "row_says" AD Ik):bF P w K mg base iy (k+1) f fd AE Xd:=by
 refine F.ok rE (hbody:=(0:))
 have ze:=h; clear h; refine mK ze fun v u h rs eE BK a1 a2 hR hN q=>?_; clear ze; subst BK;have ND:=rE.nd;refine⟨_,(aq (gO PassesOwn.never rfl (rN (K:=K) rfl (pv 0)) (aC (i:=3)) (aq (aR (i:=4) (pf qP hr (ak (pv 3) (ak (pv 1) (ak (pv 2) aj))))) (aF (cN (bf vW (pv 4) ou (bc _)) (aF (aZ (pv 4))) bI)))) (aF (aZ (pv 1)))),?_⟩
 refine bG (aY a1) fun a xs cL h1 h2=>?_; subst cL;have hlen:=h2.length;rw[bN] at hlen;ext;rw[Px];ext;refine TK.of h1 (fun n σ H'=>∃o1 o2,σ=[some (.ref a),some (.int h),some u,o1,o2]/\aK H H'/\mJ h eE (rs.drop n)=mJ h eE rs) ⟨_,_,rfl,aK.refl H,rfl⟩ (fun n σ H' _ ⟨o1,o2,_,sm,_⟩=>sm _ _ h1) ?_ ?_
 ·intro n x σ H1 hx El; refine bG El fun o1 o2 cL sm e=>?_; clear El; subst cL;obtain⟨d,e1,e2⟩:=h2.get hx;rw[cA] at e1;obtain⟨r,er,rfl⟩:=Ku.mp e1
  have hn:n<rs.length:=by
   obtain⟨z,_⟩:=jF.mp er; exact z
  have ed:rs.drop n=r::rs.drop (n+1):=by
   rw[M5 hn];obtain⟨z,ez⟩:=jF.mp er;rw[ez]
  rw[ed,mJ] at e;ext;refine ae5.of (e2.mono sm) (a2.mono sm) (hR r (dC er)) hN fun H2 s2=>?_;have s2:=sm.trans s2;cases es:says r h eE with
  | none=>
   rw[es] at e;refine⟨trivial,?_⟩;exact⟨_,_,rfl,s2,e⟩
  | some i=>
   rw[es] at e;refine⟨trivial,?_⟩;have e:i=mJ h eE rs:=e;show Q (.int i) H2;rw[e]; exact q H2 s2
 ·rintro σ H1 ⟨o1,o2,rfl,sm,e⟩;ext;rw[hlen,Fz] at e;have e:h=mJ h eE rs:=e;rw[e];have:=q H1 sm;rw[<- e] at this ⊢;exact this
def QD(d0 d1 d3 d4 d5:PyData)(l m:Int)(ir:List (List jx)):PyData:=.tuple [d0,d1,.tuple [.int l,.int m],d3,d4,d5,nQ ir]
def PB:Sp:=fun vs H Q _=>∃(v u:V)(h l m:Int)(d0 d1 d3 d4 d5:PyData)(ir:List (List jx))(eE:List (List Int)),vs=[v,.int h,u]/\At H (QD d0 d1 d3 d4 d5 l m ir) v/\At H (HX eE) u/\(∀rs∈ir,∀r∈rs,yK r)/\ir.length<=100/\qT eE /\
 ∀H',aK H H'->Q (.int (ux ir l m h eE)) H'
theorem Kh:aV ["post","hands","newest","least","most","wishes","wished"] AF (aD Ip):=(by walk_at "c")
theorem Uq(F:jL K "wish" "wish" Ip f fd)(B:Bi mg)(oV:Ct P w K mg base k "rule_wish" AE Xd):bF P w K mg base iy (k+1) f fd AF PB:=by
 refine F.ok Kh (hbody:=(0:))
 obtain⟨v,u,h,l,m,d0,d1,d3,d4,d5,ir,eE,rfl,a1,a2,hR,hn,hN,q⟩:=h;have ND:=Kh.nd;refine⟨_,(aq (dN (aU aP (pv 0) ao (fun _ _=>rfl)) (bR (K:=K) (n:=2) rfl rfl (aB (aC (i:=3)) (aB (aC (i:=4)) bC)))) (aq (Cy (i:=5) ND rfl (by walk_at "o") (N':=["rule","hands","newest"]) (js:=[1,2]) rfl (rN (K:=K) rfl (aU aP (pv 0) ao (fun _ _=>rfl))) sX.mk2 rfl ⋯ rfl (fun fp s' H'=>(pf oV hr (ak (pv 0) (ak (pv 1) (ak (pv 2) aj)))))) (aq (aR (i:=6) (Uh rfl B.max (ak (pv 5) aj) (pv 1))) (aF (aZ (pb (cZ rfl) B.min jt (ak (pb (gQ rfl) B.max oW (ak (pv 6) (ak (pv 3) aj))) (ak (pv 4) aj)))))))),?_⟩
 refine bG (aY a1) fun a xs cL h1 h2=>?_; subst cL;have ze:=aa.aJ h2; clear h2; refine bG ze fun x0 _ cL b0 h2=>?_; clear ze; subst cL;have ze:=aa.aJ h2; clear h2; refine bG ze fun x1 _ cL b1 h2=>?_; clear ze; subst cL;have ze:=aa.aJ h2; clear h2; refine bG ze fun x2 _ cL b2 h2=>?_; clear ze; subst cL;have ze:=aa.aJ h2; clear h2; refine bG ze fun x3 _ cL b3 h2=>?_; clear ze; subst cL;have ze:=aa.aJ h2; clear h2; refine bG ze fun x4 _ cL b4 h2=>?_; clear ze; subst cL;have ze:=aa.aJ h2; clear h2; refine bG ze fun x5 _ cL b5 h2=>?_; clear ze; subst cL;have ze:=aa.aJ h2; clear h2; refine bG ze fun x6 _ cL b6 h2=>?_; clear ze; subst cL;cases aa.fH h2;refine bG (aY b2) fun c ys cL g1 g2=>?_; subst cL;have ze:=aa.aJ g2; clear g2; refine bG ze fun y0 _ cL k0 g2=>?_; clear ze; subst cL;have ze:=aa.aJ g2; clear g2; refine bG ze fun y1 _ cL k1 g2=>?_; clear ze; subst cL;cases aa.fH g2;unfold At at k0 k1;subst k0 k1;refine bG (aY b6) fun e zs cL m1 m2=>?_; subst cL;ext;refine Ix.tup h1 (a_ (j:=2) rfl) ⟨c,_,rfl,fK.of g1,rfl,?_⟩;ext;rw[tE];ext;refine Ix.tup h1 (a_ (j:=6) rfl) ?_;refine Dw (a:=e) (f:=fun i=>mJ h eE (ir.getD i [])) (fun R hR=>hR) m1 m2 (nY (aQ (by rw[bN]; omega))) (fun i x d H' s' ed hx R hR'=>?_) (fun acc H' s' hl=>?_)
 ·rw[cA] at ed;obtain⟨rs,el,rfl⟩:=Ku.mp ed;show iU _ _ _ _ [some x,some (.int h),some u] H' R;ext;refine Rw.of hx (a2.mono s') (hR rs (dC el)) hN fun H2 s2=>?_;have:=hR' H2 s2;have eg:ir.getD i []=rs:=by rw[ig,el]; rfl
  rw[eg] at this;exact this
 ·rw[bN] at hl
  have el:(List.range ir.length).map (fun i=>mJ h eE (ir.getD i []))=ir.map (mJ h eE):=by
   apply List.ext_getElem
   ·simp
   ·intro i h1 h2;simp at h1 h2;simp[ig,h2]
  rw[el] at hl;have q1:=q H' s';unfold ux topOf at q1;refine⟨acc,_,rfl,hl,fun en=>?_,fun b r er=>?_⟩
  ·rw[en] at q1;exact q1
  ·rw[er] at q1;exact q1
def vR:Sp:=fun vs H Q _=>∃(v x:V)(a:Addr)(r:Int)(b:Addr)(ns:List Int)(u:List V),v=.ref a/\vs=[v]/\H a=some (.tup (x::.int r::.ref b::u))/\H b=some (.tup (ns.map V.int))/\Q (.int (r+ns.sum)) H
theorem uL:aV ["stand"] ["stand"] (aD qy):=(by walk_at "c")
theorem Gy(F:jL K "hands_of" "hands_of" qy f fd)(B:Bi mg):bF P w K mg base iy (k+1) f fd ["stand"] vR:=by
 refine F.ok uL (hbody:=(0:))
 refine KC h fun v x a r b ns u LQ Ef h1 h2 q=>?_; clear h; subst LQ; subst Ef;have ND:=uL.nd;refine⟨_,(aF (aZ (aL bu (aU aP (pv 0) ao (fun _ _=>rfl)) (pb (dH rfl) B.sum j6 (ak (aU aP (pv 0) ao (fun _ _=>rfl)) aj))))),?_⟩;ext;refine⟨a,_,1,_,rfl,rfl,.inr h1,a_ (j:=1) rfl,?_⟩;refine⟨a,_,2,_,rfl,rfl,.inr h1,a_ (j:=2) rfl,?_⟩;refine⟨b,ns,rfl,.inr h2,?_⟩;exact⟨_,_,rfl,rfl,q⟩
theorem Rm{X:Cx}:abI X (fun o i H Q=>∃(p:Addr)(xs:List V)(j:Nat)(v:V),o=.ref p/\i=.int j/\H p=some (.lst xs)/\xs[j]?=some v/\Q v H):=by
 intro ae s σ H o i ov iv Q I ro ri h;obtain⟨p,xs,j,v,rfl,rfl,hp,hv,q⟩:=h;cases ro;obtain⟨t,rfl⟩:=ri;obtain⟨its,r,pl,hz⟩:=I.list (bT.of (K:=X.K) hp);obtain⟨w,ew,yU⟩:=r.get hv;have hl:=r.length;have hn:=qK;have hj:j<xs.length:=by obtain⟨z,_⟩:=jF.mp hv; exact z
 exact wpAny_getItem_list pl.isList ∅ ∅ (by simpa using ew) ⟨v,H,I,yU,q⟩
theorem U3{n j:Nat}(h:j<n):Q5 n (j:Int)=some j:=by
 unfold Q5;rw[bh ∅,bh ∅,xF]
structure gD where
 w:Int
 r:Int
 cs:List Int
 s:Int
 t:Int
 us:List (List Int)
def kh(x:gD):PyData:=.tuple [.int x.w,.int x.r,.tuple (x.cs.map .int),.int x.s,.int x.t,.tuple (x.us.map j9)]
structure Ht(x:gD):Prop where
 c:x.cs.length=5
 u:x.us.length=3
 l:∀y∈x.us,y.length=3
structure eO where
 p:Int
 m:Int
 lo:Int
 hi:Int
 a:Nat
 e:Int
 u:Int
 d:Int
 ir:List (List jx)
def gM(x:eO):PyData:=QD (.int x.p) (.int x.m) (.int x.a) (.int x.e) (.tuple [.int x.u,.int x.d]) x.lo x.hi x.ir
structure R7(x:eO):Prop where
 a:x.a<=4
 p:0<=x.p/\x.p<=1000000
 n:x.ir.length<=100
 g:∀rs∈x.ir,∀r∈rs,yK r
theorem tZ{H:Hp}{x:eO}{v:V}(h:At H (gM x) v):∃a b c d,v=.ref a/\H a=some (.tup [.int x.p,.int x.m,.ref b,.int x.a,.int x.e,.ref c,.ref d])/\H c=some (.tup [.int x.u,.int x.d]):=by
 obtain⟨a,xs,rfl,h1,h2⟩:=aY h;obtain⟨x0,_,rfl,b0,h2⟩:=aa.aJ h2;obtain⟨x1,_,rfl,b1,h2⟩:=aa.aJ h2;obtain⟨x2,_,rfl,b2,h2⟩:=aa.aJ h2;obtain⟨x3,_,rfl,b3,h2⟩:=aa.aJ h2;obtain⟨x4,_,rfl,b4,h2⟩:=aa.aJ h2;obtain⟨x5,_,rfl,b5,h2⟩:=aa.aJ h2;obtain⟨x6,_,rfl,b6,h2⟩:=aa.aJ h2;cases aa.fH h2;unfold At at b0 b1 b3 b4;subst b0 b1 b3 b4;obtain⟨b,ys,rfl,_,_⟩:=aY b2;obtain⟨c,zs,rfl,g1,g2⟩:=aY b5;obtain⟨d,ws,rfl,_,_⟩:=aY b6;obtain⟨y0,_,rfl,k0,g2⟩:=aa.aJ g2;obtain⟨y1,_,rfl,k1,g2⟩:=aa.aJ g2;cases aa.fH g2;unfold At at k0 k1;subst k0 k1;exact⟨a,b,c,d,rfl,h1,g1⟩
theorem Ac{H:Hp}{x:gD}{v:V}(h:At H (kh x) v):∃a b c,v=.ref a/\H a=some (.tup [.int x.w,.int x.r,.ref b,.int x.s,.int x.t,.ref c])/\H b=some (.tup (x.cs.map V.int))/\At H (.tuple (x.us.map j9)) (.ref c):=by
 obtain⟨a,xs,rfl,h1,h2⟩:=aY h;obtain⟨x0,_,rfl,b0,h2⟩:=aa.aJ h2;obtain⟨x1,_,rfl,b1,h2⟩:=aa.aJ h2;obtain⟨x2,_,rfl,b2,h2⟩:=aa.aJ h2;obtain⟨x3,_,rfl,b3,h2⟩:=aa.aJ h2;obtain⟨x4,_,rfl,b4,h2⟩:=aa.aJ h2;obtain⟨x5,_,rfl,b5,h2⟩:=aa.aJ h2;cases aa.fH h2;unfold At at b0 b1 b3 b4;subst b0 b1 b3 b4;obtain⟨b,ys,rfl,g1,g2⟩:=aY b2;cases cF g2;obtain⟨c,zs,rfl,_,_⟩:=aY b5;exact⟨a,b,c,rfl,h1,g1,b5⟩
def Cg(e s:Int):Int:=if s+1<e then s+1 else 0
def Dk(e s t:Int):Bool:=if s+1<e then false else decide (t=0)
def Ka:Sp:=fun vs H Q _=>∃(v:V)(x:eO)(s t:Int),vs=[v,.int s,.int t]/\At H (gM x) v/\∀p H',aK H H'->H' p=some (.tup [.int (Cg x.e s),.bl (Dk x.e s t)])->Q (.ref p) H'
theorem jA:aV ["post","since","rest","every"] ["post","since","rest"] (aD gF):=(by walk_at "c")
theorem rO(F:jL K "since_and_look" "since_and_look" gF f fd):bF P w K mg base iy (k+1) f fd ["post","since","rest"] Ka:=by
 refine F.ok jA (hbody:=(0:))
 refine uP h fun v x sn t lC a1 q=>?_; clear h; subst lC;have ND:=jA.nd;refine⟨_,(aq (aR (i:=3) (aU aP (pv 0) ao (fun _ _=>rfl))) (aq (cN (bf uQ (aL bu (pv 1) ao) (pv 3) (bc _)) (aF (aZ (bA (ak (aL bu (pv 1) ao) (ak pZ aj))))) bI) (aF (aZ (bA (ak ao (ak (eX jh (pv 2) ao (bc _)) aj))))))),?_⟩
 refine uP (tZ a1) fun a b c d lC h1 h2=>?_; subst lC;ext;refine Ix.tup h1 (a_ (j:=4) rfl) ?_;ext;refine dW (fun c1=>?_) (fun c1=>?_)
 ·have c1':=Cr c1;refine⟨⋯,fun p H1 f1 s1 e1=>q p H1 s1 ?_⟩
  unfold Cg Dk;rw[bh c1',bh c1']; exact e1
 ·have c1':=MT c1;refine⟨⋯,fun p H1 f1 s1 e1=>q p H1 s1 ?_⟩
  unfold Cg Dk;rw[aX c1',aX c1']; exact e1
def wj(x:eO)(h fr:Int)(eE:List (List Int)):Int:=if fr<ux x.ir x.lo x.hi h eE-h then fr else ux x.ir x.lo x.hi h eE-h
def Fj:Sp:=fun vs H Q _=>∃(v u:V)(x:eO)(h fr:Int)(eE:List (List Int)),vs=[v,.int h,u,.int fr]/\At H (gM x) v/\At H (HX eE) u/\R7 x/\qT eE/\∀H',aK H H'->Q (.int (wj x h fr eE)) H'
theorem rF:aV AG AG (aD nP):=(by walk_at "c")
theorem Dd(F:jL K "change_of" "change_of" nP f fd)(B:Bi mg)(JN:Ct P w K mg base k "wish" AF PB):bF P w K mg base iy (k+1) f fd AG Fj:=by
 refine F.ok rF (hbody:=(0:))
 obtain⟨v,u,x,h,fr,eE,rfl,a1,a2,hP,hN,q⟩:=h;have ND:=rF.nd;refine⟨_,(aF (aZ (pb (cZ rfl) B.min jt (ak (aL gk (pf JN hr (ak (pv 0) (ak (pv 1) (ak (pv 2) aj)))) (pv 1)) (ak (pv 3) aj))))),?_⟩;ext;refine(Z7 v u h x.lo x.hi _ _ _ _ _ x.ir eE ⟨rfl,a1,a2,hP.g,hP.n,hN,fun H1 s1=>?_⟩);ext;exact q H1 s1
def bx:List Int->Int->List Int×Int
 | [],n=>([],n)
 | c::cs,n=>((c-(if(bx cs n).2<c then(bx cs n).2 else c))::(bx cs n).1,(bx cs n).2-(if(bx cs n).2<c then(bx cs n).2 else c))
theorem qL:∀(cs:List Int)(n:Int),(bx cs n).1.length=cs.length
 | [],_=>rfl
 | c::cs,n=>by rw[bx,fU,fU,qL cs n]
def PQ:Sp:=fun vs H Q _=>∃(r n:Int)(b:Addr)(cs:List Int),vs=[.int r,.ref b,.int n]/\H b=some (.tup (cs.map V.int))/\cs.length<=100/\∀p b' H',aK H H'->H' p=some (.tup [.int (r-(bx cs n).2),.ref b'])->H' b'=some (.tup ((bx cs n).1.map V.int))->Q (.ref p) H'
theorem rD:aV ["ready","called","many","left","place","gone"] AH (aD nM):=(by walk_at "c")
theorem C_(F:jL K "sent_home" "sent_home" nM f fd)(B:Bi mg):bF P w K mg base iy (k+1) f fd AH PQ:=by
 refine F.ok rD (hbody:=(0:))
 refine uP h fun r n b cs lC h1 BJ=>?_; clear h; subst lC; obtain⟨hlen,q⟩:=BJ;have ND:=rD.nd;refine⟨_,(aq (aR (i:=3) (pt (Oc) B.list my (ak (pv 1) aj))) (aq (gO PassesOwn.never rfl (Xu B.reversed B.range (ak (pb (cB (K:=K) rfl) B.len dU (ak (pv 3) aj)) aj)) (aC (i:=4)) (aq (aR (i:=5) (pb (cZ rfl) B.min jt (ak (aU aP (pv 3) (pv 4) (fun _ _=>rfl)) (ak (pv 2) aj)))) (aq (T9 (pv 3) (pv 4) Rm (pv 5) Jw set_list) (aF (Cz (i:=2) ND rfl (by walk_at "o") (pv 5) Jw))))) (aF (aZ (bA (ak (aL gk (pv 0) (pv 2)) (ak (pt (pH) B.tuple sU (ak (pv 3) aj)) aj))))))),?_⟩
 ext;refine⟨b,_,rfl,h1,fun p1 f1=>?_⟩;have s1:=aO f1 (HO.lst (cs.map V.int));have e1:upd H p1 (HO.lst (cs.map V.int)) p1=some (.lst (cs.map V.int)):=aA;generalize upd H p1 (HO.lst (cs.map V.int))=H1 at s1 e1 ⊢;rw[Py];ext;refine⟨p1,_,rfl,.inl (bT.of e1),?_⟩;rw[bN];refine VK'.of (n:=cs.length) rfl ∅ (fun i σ H'=>∃o4 o5:Option V,σ=[some (.int r),some (.ref b),some (.int (bx (cs.drop (cs.length-i)) n).2),some (.ref p1),o4,o5]/\H' p1=some (.lst ((cs.take (cs.length-i)++(bx (cs.drop (cs.length-i)) n).1).map V.int))/\aK H H')
  ⟨_,_,by rw[Nat.sub_zero,Fz]; rfl,by rw[Nat.sub_zero,Fz,rJ]; simpa[bx] using e1,s1⟩ ?_ ?_
 ·intro i σ H2 hi O2; refine bG O2 fun o4 o5 cL h2 s2=>?_; clear O2; subst cL;obtain⟨j,ej⟩:∃j:Nat,cs.length-i=j+1:=⟨cs.length-i-1,∅⟩
  have ej2:cs.length-(i+1)=j:=by omega
  have ei:(cs.length:Int)-1-(i:Nat)=(j:Nat):=by omega
  rw[ej] at h2;rw[ei,ej,ej2];have hj:j<cs.length:=by omega
  have dj:cs.drop j=cs[j]::cs.drop (j+1):=M5 hj;have tj:cs.take (j+1)=cs.take j++[cs[j]]:=by rw[List.take_succ,cT hj]; rfl
  rw[dj,bx];generalize bx (cs.drop (j+1)) n=gh at h2 ⊢;rw[tj] at h2;generalize cs[j]=cj at h2 ⊢;have lt:(cs.take j).length=j:=by rw[kI]; omega
  have gj:((cs.take j++[cj]++gh.1).map V.int)[j]?=some (.int cj):=by
   rw[cA,FN,vy ∅,lt,xJ]; rfl
  ext;refine Ix.lst h2 (a_ gj) ?_;ext;refine(uw p1 _ j _ ⟨rfl,rfl,h2,gj,?_⟩);ext;refine(uw p1 _ _ j ⟨rfl,rfl,h2,U3 (by rw[bN,cC,cC,lt]; show j<j+1+_; omega),?_⟩)
  refine⟨_,⟨rfl,jM _ _ ⟨rfl,rfl,jM _ _ ⟨rfl,?_,fun z o w=>?_⟩⟩⟩⟩
  ·rw[aA]
   congr 2
   have e:cs.take j++[cj]++gh.1=cs.take j++(cj::gh.1):=by simp
   rw[e,gJ,gJ,List.set_append_right _ _ (by rw[bN]; omega),bN,lt,xJ]
   rfl
  ·rw[aH (cD w f1)];exact s2 _ _ w
 ·rintro σ H2 ⟨o4,o5,rfl,h2,s2⟩;rw[xJ,List.drop_zero,List.take_zero,vg] at h2;rw[xJ,List.drop_zero];ext;refine⟨p1,_,rfl,h2,fun p3 f3=>?_⟩;have s3:=aO f3 (HO.tup ((bx cs n).1.map V.int));have e3:upd H2 p3 (HO.tup ((bx cs n).1.map V.int)) p3=some (.tup ((bx cs n).1.map V.int)):=aA;generalize upd H2 p3 (HO.tup ((bx cs n).1.map V.int))=H3 at s3 e3 ⊢;refine⟨⋯,fun p4 H4 f4 s4 e4=>?_⟩
  exact q p4 p3 H4 (s2.trans (s3.trans s4)) e4 (s4 _ _ e3)
def fO(x:eO)(st:gD)(ch:Int):gD:=
 if ch=0 then st else if 0<ch then { st with cs:=st.cs.take x.a++[st.cs.getD x.a 0+ch]++st.cs.drop (x.a+1),t:=x.u }
 else { st with r:=st.r-(bx st.cs (-ch)).2,cs:=(bx st.cs (-ch)).1,t:=x.d }
def Ij:Sp:=fun vs H Q _=>∃(v u:V)(x:eO)(st:gD)(ch:Int),vs=[v,u,.int ch]/\At H (gM x) v/\At H (kh st) u/\R7 x/\Ht st/\∀u' H',aK H H'->At H' (kh (fO x st ch)) u'->Q u' H'
theorem nA:aV ["post","stand","change","late","rests","wait","ready","called","since","rest","seen"] AI (aD jO):=(by walk_at "c")
theorem xW(F:jL K "with_change" "with_change" jO f fd)(B:Bi mg)(oU:Ct P w K mg base k "sent_home" AH PQ):bF P w K mg base iy (k+1) f fd AI Ij:=by
 refine F.ok nA (hbody:=(0:))
 refine mK h fun v u x st ch BK a1 a2 hP hS q=>?_; clear h; subst BK;have ND:=nA.nd;refine⟨_,(aq (cN (bf jh (pv 2) ao (bc _)) (aF (aZ (pv 1))) bI) (aq (t_ (i:=3) (j:=4) rfl ND rfl rfl ⋯ rfl rfl (ak (aU aP (pv 0) ao (fun _ _=>rfl)) (ak (aU aP (pv 0) ao (fun _ _=>rfl)) aj)) (by rfl)) (aq (dN (pv 1) (bR (K:=K) (n:=6) rfl rfl (aB (aC (i:=5)) (aB (aC (i:=6)) (aB (aC (i:=7)) (aB (aC (i:=8)) (aB (aC (i:=9)) (aB (aC (i:=10)) bC)))))))) (aq (cN (bf Gv (pv 2) ao (bc _)) (aq (aR (i:=7) (aL oZ (aL oZ (cY jz (pv 7) eU (eQ (pv 3))) (bA (ak (aL bu (aU aP (pv 7) (pv 3) (fun _ _=>rfl)) (pv 2)) aj))) (cY jz (pv 7) (eQ (aL bu (pv 3) ao)) eU))) (aF (aR (i:=9) (aU aP (pv 4) ao (fun _ _=>rfl))))) (aq (dN (pf oU hr (ak (pv 6) (ak (pv 7) (ak (QG HR (pv 2)) aj)))) (bR (K:=K) (n:=2) rfl rfl (aB (aC (i:=6)) (aB (aC (i:=7)) bC)))) (aF (aR (i:=9) (aU aP (pv 4) ao (fun _ _=>rfl)))))) (aF (aZ (bA (ak (pv 5) (ak (pv 6) (ak (pv 7) (ak (pv 8) (ak (pv 9) (ak (pv 10) aj))))))))))))),?_⟩
 ext;refine dW (fun c1=>?_) (fun c1=>?_)
 ·have:=q u H (aK.refl H);unfold fO at this;rw[bh (Cr c1)] at this;exact this a2
 have c1':=MT c1;refine uP (tZ a1) fun pa pb pc pd lC p1 p2=>?_; subst lC;refine kJ (Ac a2) fun sa sb sc iQ g1 g2 g3=>?_; subst iQ;have ha4:=hP.a;have hc5:=hS.c;refine Ix.tup p1 (a_ (j:=3) rfl) (Ix.tup p1 (a_ (j:=5) rfl) ⟨_,_,rfl,?_⟩);refine⟨sa,_,rfl,fK.of g1,rfl,?_⟩;ext;refine dW (fun c2=>?_) (fun c2=>?_)
 ·have c2':=Cr c2
  have ga:(st.cs.map V.int)[x.a]?=some (.int (st.cs.getD x.a 0)):=by
   rw[cA,cT ∅,ig,cT ∅]; rfl
  refine⟨sb,_,rfl,g2,fun p3 H3 s3 e3=>?_⟩;rw[yD ∅,xF] at e3
  refine Ix.tup (s3 _ _ g2) (a_ ga) ?_;ext;refine⟨⋯,fun p4 H4 f4 s4 e4=>?_⟩
  refine⟨p3,p4,_,_,rfl,rfl,s4 _ _ e3,e4,nY (aQ (by simp; omega)),fun p5 H5 s5 e5=>?_⟩
  ext;have Zg:=s3.trans (s4.trans s5);refine⟨sb,_,rfl,Zg _ _ g2,fun p6 H6 s6 e6=>?_⟩;rw[su ∅] at e6
  refine⟨p5,p6,_,_,rfl,rfl,s6 _ _ e5,e6,nY (aQ (by simp; omega)),fun p7 H7 s7 e7=>?_⟩
  have s37:=Zg.trans (s6.trans s7);ext;refine Ix.tup (s37 _ _ p2) (a_ (j:=0) rfl) ⟨⋯,fun p8 H8 f8 s8 e8=>?_⟩
  have s38:=s37.trans s8;refine q (.ref p8) H8 s38 ?_;unfold fO;rw[aX c1',bh c2'];refine At.tup e8 (aa.cons (At.int _) (aa.cons (At.int _) (aa.cons (At.tup (s8 _ _ e7) ?_) (aa.cons (At.int _) (aa.cons (At.int _) (aa.cons (g3.mono s38) aa.nil))))));have e:(((x.a:Int)+1).toNat)=x.a+1:=by omega
  rw[e];have:=dD (H:=H8) (st.cs.take x.a++[st.cs.getD x.a 0+ch]++st.cs.drop (x.a+1));simpa using this
 ·have c2':=MT c2;refine(uw st.r (-ch) sb st.cs ⟨rfl,g2,∅,fun p3 b3 H3 s3 e3 e4=>?_⟩)
  refine⟨p3,_,rfl,fK.of e3,rfl,?_⟩;ext;refine Ix.tup (s3 _ _ p2) (a_ (j:=1) rfl) ⟨⋯,fun p8 H8 f8 s8 e8=>?_⟩
  have s38:=s3.trans s8;refine q (.ref p8) H8 s38 ?_;unfold fO;rw[aX c1',aX ∅]
  exact At.tup e8 (aa.cons (At.int _) (aa.cons (At.int _) (aa.cons (At.tup (s8 _ _ e4) (dD _)) (aa.cons (At.int _) (aa.cons (At.int _) (aa.cons (g3.mono s38) aa.nil))))))
def cu(x:eO)(st:gD)(come:Int):Int:=if(if 0>x.m-st.w then 0 else x.m-st.w)<come then(if 0>x.m-st.w then 0 else x.m-st.w) else come
def bZ(st:gD):Int:=st.r+st.cs.getD 0 0
def gr(x:eO)(st:gD)(come:Int):Int:=if bZ st*x.p<st.w+cu x st come then bZ st*x.p else st.w+cu x st come
def gm(x:eO)(st:gD)(come:Int):List (List Int):=[come,gr x st come,st.w+cu x st come-gr x st come]::st.us
def iu(x:eO)(st:gD)(come:Int):gD:=⟨st.w+cu x st come-gr x st come,bZ st,st.cs.drop 1++[0],Cg x.e st.s,if 0>st.t-1 then 0 else st.t-1,(gm x st come).take 3⟩
def uY(x:eO)(st:gD)(come fr:Int):Int:=if Dk x.e st.s st.t=true then wj x (bZ st+(st.cs.drop 1++[0]).sum) fr (gm x st come) else 0
def Qd:Sp:=fun vs H Q _=>∃(v u:V)(x:eO)(st:gD)(come fr:Int),vs=[v,u,.int come,.int fr]/\At H (gM x) v/\At H (kh st) u/\R7 x/\Ht st /\
 ∀p u' H',aK H H'->At H' (kh (fO x (iu x st come) (uY x st come fr))) u'->H' p=some (.tup [u',.int (gr x st come),.int (come-cu x st come),.int (uY x st come fr)])->Q (.ref p) H'
theorem Kl:aV ["post","stand","come","free","pace","room","wait","ready","called","since","rest","seen","taken","done","newest","looks","moved","change"] AJ (aD Ir):=(by walk_at "c")
theorem GD{x:eO}{st:gD}{come:Int}(h:Ht st):Ht (iu x st come):=by
 refine⟨?_,?_,fun y hy=>?_⟩
 ·show(st.cs.drop 1++[0]).length=5;have:=h.c;simp; omega
 ·show((gm x st come).take 3).length=3;have:=h.u;unfold gm;simp; omega
 ·have hy:=FQ hy;unfold gm at hy;rcases bB.mp hy with z | z
  ·rw[z]; rfl
  ·exact h.l y z
theorem KQ{T:Addr}{tk:Tok}(F:J2 K "beat" "beat" Ir f fd T 12 tk)(B:Bi mg)(O:Co K mg)(e_:Ct P w K mg base k "since_and_look" ["post","since","rest"] Ka)(jJ:Ct P w K mg base k "change_of" AG Fj)(cW:Ct P w K mg base k "hands_of" ["stand"] vR)
  (gY:Ct P w K mg base k "with_change" AI Ij):bF P w K mg base iy (k+1) f fd AJ Qd:=by
 refine F.ok Kl (hbody:=(0:))
 obtain⟨v,u,x,st,come,fr,rfl,a1,a2,hP,hS,q⟩:=h;have ND:=Kl.nd;refine⟨_,(aq (dN (cY jz (pv 0) eU (eQ ao)) (bR (K:=K) (n:=2) rfl rfl (aB (aC (i:=4)) (aB (aC (i:=5)) bC)))) (aq (dN (pv 1) (bR (K:=K) (n:=6) rfl rfl (aB (aC (i:=6)) (aB (aC (i:=7)) (aB (aC (i:=8)) (aB (aC (i:=9)) (aB (aC (i:=10)) (aB (aC (i:=11)) bC)))))))) (aq (Cz (i:=7) ND rfl (by walk_at "o") (aU aP (pv 8) ao (fun _ _=>rfl)) Q7) (aq (aR (i:=8) (aL oZ (cY jz (pv 8) (eQ ao) eU) (bA (ak ao aj)))) (aq (aR (i:=12) (pb (cZ rfl) B.min jt (ak (pv 2) (ak (pb (gQ rfl) B.max oW (ak (aL gk (pv 5) (pv 6)) (ak ao aj))) aj)))) (aq (Cz (i:=6) ND rfl (by walk_at "o") (pv 12) Q7) (aq (aR (i:=13) (pb (cZ rfl) B.min jt (ak (pv 6) (ak (aL jg (pv 7) (pv 4)) aj)))) (aq (Cz (i:=6) ND rfl (by walk_at "o") (pv 13) Jw) (aq (aR (i:=14) (aL oZ (bA (ak (bA (ak (pv 2) (ak (pv 13) (ak (pv 6) aj)))) aj)) (pv 11))) (aq (dN (pf e_ hr (ak (pv 0) (ak (pv 9) (ak (pv 10) aj)))) (bR (K:=K) (n:=2) rfl rfl (aB (aC (i:=9)) (aB (aC (i:=15)) bC)))) (aq (aR (i:=16) (bA (ak (pv 6) (ak (pv 7) (ak (pv 8) (ak (pv 9) (ak (pb (gQ rfl) B.max oW (ak (aL gk (pv 10) ao) (ak ao aj))) (ak (cY jz (pv 14) eU (eQ (CQ O.Ea))) aj)))))))) (aq (aR (i:=17) (gf (gK (pv 15)) (pf jJ hr (ak (pv 0) (ak (pf cW hr (ak (pv 16) aj)) (ak (pv 14) (ak (pv 3) aj))))) ao)) (aF (aZ (bA (ak (pf gY hr (ak (pv 0) (ak (pv 16) (ak (pv 17) aj)))) (ak (pv 13) (ak (aL gk (pv 2) (pv 12)) (ak (pv 17) aj))))))))))))))))))),?_⟩
 refine uP (tZ a1) fun pa pb pc pd lC p1 p2=>?_; subst lC;refine kJ (Ac a2) fun sa sb sc iQ g1 g2 g3=>?_; subst iQ;have hc5:=hS.c;have hpp:=hP.p
 have gc0:(st.cs.map V.int)[0]?=some (.int (st.cs.getD 0 0)):=by
  rw[cA,cT ∅,ig,cT ∅]; rfl
 ext;refine⟨pa,_,rfl,p1,fun q1 H1 s1 e1=>?_⟩;rw[yD ⋯] at e1
 replace e1:H1 q1=some (.tup [.int x.p,.int x.m]):=e1
 refine⟨q1,_,rfl,fK.of e1,rfl,?_⟩;ext;refine⟨sa,_,rfl,fK.of (s1 _ _ g1),rfl,?_⟩;ext;refine⟨_,rfl,Ix.tup (s1 _ _ g2) (a_ gc0) (jM _ _ ⟨rfl,rfl,?_⟩)⟩;refine(jM sb _ ⟨rfl,s1 _ _ g2,fun q2 H2 s2 e2=>?_⟩);rw[su ⋯] at e2
 have s12:=s1.trans s2;refine⟨⋯,fun q3 H3 f3 s3 e3=>?_⟩
 refine(uw q2 q3 _ _ ⟨rfl,rfl,s3 _ _ e2,e3,nY (aQ (by simp; omega)),fun q4 H4 s4 e4=>?_⟩)
 have s14:=s12.trans (s3.trans s4);ext;refine⟨_,⟨rfl,jM _ _ ⟨rfl,rfl,.inr ∅,⟨_,⟨rfl,jM _ _ ⟨rfl,rfl,⋯,fun q5 H5 f5 s5 e5=>⟨⋯,fun q6 H6 f6 s6 e6=>?_⟩⟩⟩⟩⟩⟩⟩
 replace e5:H5 q5=some (.tup [.int come,.int (gr x st come),.int (st.w+cu x st come-gr x st come)]):=e5
 refine bG (aY g3) fun sc' us' ec gu au=>?_;cases ec;have s16:=s14.trans (s5.trans s6);have lus:us'.length=3:=by have:=au.length; rw[bN,hS.u] at this; exact this
 refine(uw q6 sc _ _ ⟨rfl,rfl,e6,s16 _ _ gu,nY (aQ (by simp; omega)),fun q7 H7 s7 e7=>?_⟩)
 have s17:=s16.trans s7;have a7:At H7 (HX (gm x st come)) (.ref q7):=At.tup e7 (aa.cons (At.tup ((s6.trans s7) _ _ e5) (dD [come,gr x st come,st.w+cu x st come-gr x st come])) (au.mono s17))
 have hN:qT (gm x st come):=⟨by show st.us.length+1=4; rw[hS.u],fun y hy=>by
  rcases bB.mp hy with z | z
  ·rw[z]; rfl
  ·exact hS.l y z⟩
 refine(uw (.ref pa) x st.s st.t ⟨rfl,a1.mono s17,fun q8 H8 s8 e8=>?_⟩);refine⟨q8,_,rfl,fK.of e8,rfl,?_⟩;ext;have s18:=s17.trans s8;refine bG (aY (a7.mono s8)) fun q7' nws en gn an=>?_;cases en;refine⟨q7,_,rfl,gn,fun q9 H9 s9 e9=>?_⟩;rw[yD ⋯] at e9
 have s19:=s18.trans s9;refine⟨⋯,fun q10 J0 Wj Ah e10=>?_⟩
 have aan:=s19.trans Ah;have e4':H4 q4=some (.tup ((st.cs.drop 1++[0]).map V.int)):=by rw[e4]; simp
 have aaj:aK H4 J0:=s5.trans (s6.trans (s7.trans (s8.trans (s9.trans Ah))))
 have am:At J0 (kh (iu x st come)) (.ref q10):=by
  refine At.tup e10 (aa.cons (At.int _) (aa.cons (At.int _) (aa.cons (At.tup (aaj _ _ e4') (dD _)) (aa.cons (At.int _) (aa.cons (At.int _) (aa.cons (At.tup (Ah _ _ e9) ?_) aa.nil))))));show aa J0 (((gm x st come).take 3).map j9) _;rw[List.map_take];exact(an.take 3).mono (s9.trans Ah)
 have fin:∀(c:Int)(R8:Hp),uY x st come fr=c->aK J0 R8->Ij [.ref pa,.ref q10,.int c] R8 (fun y H1=>4<=sizeLine/\∀p H',H1 p=none->aK H1 H'->H' p=some (.tup [y,.int (gr x st come),.int (come-cu x st come),.int c])->Q (.ref p) H') E0:=fun c R8 ec Iu=>by
  subst ec;have aam:=aan.trans Iu;exact⟨.ref pa,.ref q10,x,iu x st come,_,rfl,a1.mono aam,am.mono Iu,hP,GD hS,fun u' H12 adm a12=>⟨⋯,fun q13 H13 f13 Cj Ys=>q q13 u' H13 (aam.trans (adm.trans Cj)) (a12.mono Cj) Ys⟩⟩
 refine dW (fun c1=>?_) (fun c1=>?_)
 ·refine(Sd (.ref q10) _ q10 (bZ st) q4 (st.cs.drop 1++[0]) _ ⟨rfl,rfl,e10,aaj _ _ e4',?_⟩);refine(xi6 (.ref pa) (.ref q7) x _ fr (gm x st come) ⟨rfl,a1.mono aan,a7.mono (s8.trans (s9.trans Ah)),hP,hN,fun R8 Iu=>?_⟩);exact fin _ R8 (by unfold uY; rw[bh c1]) Iu
 ·exact fin 0 J0 (by unfold uY; rw[aX (by rw[c1]; decide)]) (aK.refl _)
local macro_rules | `(tactic| ext)=>`(tactic| simp only[_L.start,gH,vd,fU,mX,Nat.reduceAdd,Nat.reduceSub,List.replicate,Fy,vg,qF,
 lF,yQ,Ex,wK,uE,qu,dh,uH,jE,lJ,jc,lN,if_true,if_false,tY,Fv,xM,lM,lL,jW,qz,qD,nU,lO,lQ,jd,lK,qC,xr,tC,Ia,VG,IK,rI,rU,q_,Ff,VL,Ez,uJ,H_,wL,Pu,iU,Ov,iz,qt,tB,nj,VJ,jy,uA,GX,Ey,EY,HY,uG,uy,Tt,Mz,Fe,uD,uI,U6,uF,E_,Ze,Zb,Zc,Zd,Mx,tK,qp,Y4,z9,Y9,Mh,zY,Mm,YZ,Mi,Ml,Mg,zZ,Mj,Ai,Aj,Fd,Fq,mz,sZ,rm,xm,iT])
local macro_rules | `(tactic| walk_at "cap")=>`(tactic| simp only[bQ,gH,vd,Kv,Qt,Option.join_some])
def PL(K:Frag):Sp:=fun vs H Q _=>∃(s:Addr)(ns:List Int)(i:Int),vs=[.ref s,.int i]/\bT K H s (ns.map V.int)/\0<=i/\i<=1000/\∀p H',H p=none->aK H H'->Tp H' p 0->Q (.ref p) H'
theorem Ad:aV ["_law_script","_law_k","_law_cell"] AK (aD w6):=(by walk_at "c")
theorem Ng(F:jL K "_law_tape" "_law_tape" w6 f fd)(B:Bi mg):bF P w K mg base iy (k+1) f fd AK (PL K):=by
 refine F.ok Ad (hbody:=(0:))
 obtain⟨a,ns,i,rfl,hS,h0,h1,q⟩:=h;have ND:=Ad.nd;refine⟨_,(aq (aR (i:=2) (gf (bf uQ (pv 1) (pb (cB (K:=K) rfl) B.len dU (ak (pv 0) aj)) (bc _)) (aU Ld (pv 0) (pv 1) (fun _ _=>rfl)) ao)) (aF (aZ (Xw (ak (aL jg (pb (Hh) B.abs RX (ak (pv 2) aj)) (pt (Br) B.int RW (ak (eX aaK (pb (Hh) B.abs RX (ak (pv 2) aj)) (aL qG ao ao) (bc _)) aj))) (ak (aL bu (aL bu (aL jX (pv 2) ao) (aL jg ao (pv 1))) ao) (ak ao aj))))))),?_⟩
 ext;refine⟨a,_,rfl,.inl hS,?_⟩;show ∃i_1 j,V.int i=V.int i_1/\V.int ((ns.map V.int).length:Int)=V.int j/\_;ext;have YD:∀c:Int,0<=(if c<0 then -c else c):=fun c=>by split <;> omega
 have fin:∀(c x y:Int),x=(if c<0 then -c else c)*(if decide (10 ^ Int.toNat 18<=(if c<0 then -c else c))=true then 1 else 0)->y=c % 2305843009213693951+39373*i+17->∀p,H p=none->Q (.ref p) (upd H p (.lst [.int x,.int y,.int 0])):=fun c x y ex ey p hp=>by
  have hx:0<=x:=by
   rw[ex];have nn:=YD c;generalize (if c<0 then -c else c)=u at nn ⊢
   split
   ·rw[Int.mul_one]; exact nn
   ·rw[Int.mul_zero]; exact Ak 0
  have h2:=xx c (show(2305843009213693951:Int)≠0 by decide)
  have h3:=Cu c (show(0:Int)<2305843009213693951 by decide)
  exact q p _ hp (aO hp _) ⟨x,y,0,aA,hx,∅,∅,Ak 0,Ak 0⟩
 have cm:∀(c:Int)(b:Bool),R9 c (if b=true then 1 else 0):=fun c b=>.inr (by cases b <;> decide)
 refine dW (fun c1=>?_) (fun c1=>?_)
 ·have c1':=Cr c1;have hi:i.toNat<ns.length:=by rw[bN] at c1'; omega
  refine(uw a _ i (.int (ns[i.toNat])) ⟨rfl,rfl,hS,?_,?_⟩)
  ·have:=a_ (xs:=ns.map V.int) (j:=i.toNat) (v:=.int (ns[i.toNat])) (by rw[cA,cT hi]; rfl)
   rwa [show((i.toNat:Nat):Int)=i by omega] at this
  ·ext;refine⟨⟨⋯,⋯,⋯⟩,cm _ _,⋯,.inl ⋯,(by show 3<=sizeLine; decide),fun p hp=>?_⟩
   exact fin _ _ _ rfl rfl p hp
 ·refine⟨⟨⋯,⋯,⋯⟩,cm _ _,⋯,.inl ⋯,(by show 3<=sizeLine; decide),fun p hp=>?_⟩
  exact fin 0 _ _ rfl rfl p hp
def il:Sp:=fun vs H Q _=>∃(a:Addr)(m:Int)(n:Nat),vs=[.ref a,.int m]/\Tp H a n/\n<=1000000000/\0<m/\m<1000000000000000/\∀v H',0<=v->v<m->Tp H' a (n+1)->SX a H H'->Q (.int v) H'
theorem Ag:aV ["_law_tape_here","_law_many","_law_found","_law_once","_law_twice"] AL (aD xj):=(by walk_at "c")
theorem Nk(F:jL K "_law_draw" "_law_draw" xj f fd)(B:Bi mg):bF P w K mg base iy (k+1) f fd AL il:=by
 refine F.ok Ag (hbody:=(0:))
 refine kJ h fun a m n iQ lC hn BJ=>?_; clear h; subst iQ; obtain⟨x,y,z,hT,hx,hy,hy2,hz,hz2⟩:=lC; obtain⟨hm,hm2,q⟩:=BJ;have ND:=Ag.nd;refine⟨_,(aq (cN (bf Gv (aU aP (pv 0) ao (fun _ _=>rfl)) ao (bc _)) (aq (aR (i:=2) (aL jX (aU aP (pv 0) ao (fun _ _=>rfl)) (pv 1))) (aq (dN (aL Gw (aU aP (pv 0) ao (fun _ _=>rfl)) (pv 1)) (xR (pv 0) ao set_list)) (aF (aZ (pv 2))))) bI) (aq (dN (aL bu (aU aP (pv 0) ao (fun _ _=>rfl)) ao) (xR (pv 0) ao set_list)) (aq (aR (i:=3) (aL jX (aL qG (aL bu (aU aP (pv 0) ao (fun _ _=>rfl)) (aL jg ao (aU aP (pv 0) ao (fun _ _=>rfl)))) ao) ao)) (aq (aR (i:=4) (aL jX (aL jg (aL bu (pv 3) (aU aP (pv 0) ao (fun _ _=>rfl))) (aL bu (aL bu (aL jX (pv 3) ao) ao) (aU aP (pv 0) ao (fun _ _=>rfl)))) ao)) (aF (aZ (aL jX (aL KN (aL jX (aL bu (aL jg (pv 4) ao) (pv 3)) ao) ao) (pv 1)))))))),?_⟩
 ext;refine Ix.lst hT (a_ (j:=0) rfl) ?_;ext;refine dW (fun c1=>?_) (fun c1=>?_)
 ·refine Ix.lst hT (a_ (j:=0) rfl) ?_;ext;refine⟨hm,Ix.lst hT (a_ (j:=0) rfl) ?_⟩;ext;refine⟨⟨hm,Int.lt_trans hm2 ⋯⟩,a,_,0,0,rfl,rfl,hT,rfl,?_⟩
  refine q _ _ (xx _ ∅) (Cu _ hm) ⟨x / m,y,z,aA,Int.ediv_nonneg hx ∅,hy,hy2,hz,∅⟩ SX.upd
 ·refine Ix.lst hT (a_ (j:=2) rfl) ?_;ext;refine(uw a _ 2 2 ⟨rfl,rfl,hT,rfl,?_⟩);have hT2:upd H a (.lst [.int x,.int y,.int (z+1)]) a=some (.lst [.int x,.int y,.int (z+1)]):=aA;show yV (V.ref a) (V.int 1) (upd H a (.lst [.int x,.int y,.int (z+1)])) _;generalize eH:upd H a (.lst [.int x,.int y,.int (z+1)])=H2 at hT2 ⊢;have sx:SX a H H2:=by rw[<- eH]; exact SX.upd
  refine Ix.lst hT2 (a_ (j:=1) rfl) (Ix.lst hT2 (a_ (j:=2) rfl) ?_);ext;refine⟨.inl ⋯,⟨⋯,⋯,∅⟩,⋯,Ix.lst hT2 (a_ (j:=2) rfl) ?_⟩
  generalize eo:(y+39373*(z+1)) ^ Int.toNat 5 % 2147483647=o;have o1:0<=o:=by rw[<- eo]; exact xx _ ⋯
  have o2:o<2147483647:=by rw[<- eo]; exact Cu _ ⋯
  ext;refine⟨⋯,Ix.lst hT2 (a_ (j:=2) rfl) ?_⟩
  ext;have m1:=xx o (show(40009:Int)≠0 by decide)
  have m2:=Cu o (show(0:Int)<40009 by decide)
  refine⟨.inl ∅,⋯,?_⟩
  generalize et:(o+(z+1))*(o % 40009+7+(z+1)) % 2147483629=t;have t1:0<=t:=by rw[<- et]; exact xx _ ⋯
  have t2:t<2147483629:=by rw[<- et]; exact Cu _ ⋯
  refine⟨.inl ∅,⋯,⟨⋯,⋯⟩,hm,?_⟩
  exact q _ _ (xx _ ∅) (Cu _ hm) ⟨x,y,z+1,hT2,hx,hy,hy2,∅,∅⟩ sx
theorem cR.of{a:Addr}{m:Int}{n:Nat}{H:Hp}{Q:VK}{E:XK}(t:Tp H a n)(hn:n<=1000000000)(h1:0<m)(h2:m<1000000000000000)(q:∀v H',0<=v->v<m->Tp H' a (n+1)->SX a H H'->Q (.int v) H'):il ([.ref a,.int m]++[]) H Q E:=⟨a,m,n,rfl,t,hn,h1,h2,q⟩
def rC:Sp:=fun vs H Q _=>∃(a:Addr)(n:Nat),vs=[.ref a]/\Tp H a n/\n<=900000000/\∀v H',0<=v->v<=1000000000000->Tp H' a (n+4)->SX a H H'->Q (.int v) H'
theorem R4.of{a:Addr}{n:Nat}{H:Hp}{Q:VK}{E:XK}(t:Tp H a n)(hn:n<=900000000)(q:∀v H',0<=v->v<=1000000000000->Tp H' a (n+4)->SX a H H'->Q (.int v) H'):rC ([.ref a]++[]) H Q E:=⟨a,n,rfl,t,hn,q⟩
theorem wR:aV ["_law_tape_here","_law_way","_law_great"] AM (aD tO):=(by walk_at "c")
theorem Jh(F:jL K "_law_units" "_law_units" tO f fd)(B:Bi mg)(aM:Ct P w K mg base k "_law_draw" AL il):bF P w K mg base iy (k+1) f fd AM rC:=by
 refine F.ok wR (hbody:=(0:))
 obtain⟨a,n,rfl,tp,hn,q⟩:=h;have ND:=wR.nd;refine⟨_,(aq (aR (i:=1) (pf aM hr (ak (pv 0) (ak ao aj)))) (aq (cN (bf uQ (pv 1) ao (bc _)) (aF (aZ (pf aM hr (ak (pv 0) (ak ao aj))))) bI) (aq (cN (bf jh (pv 1) ao (bc _)) (aF (aZ (pf aM hr (ak (pv 0) (ak ao aj))))) bI) (aq (aR (i:=2) (aL bu (aL jg (pf aM hr (ak (pv 0) (ak (aL qG ao ao) aj))) (aL qG ao ao)) (pf aM hr (ak (pv 0) (ak (aL qG ao ao) aj))))) (aF (aZ (gf (bf jh (pv 1) ao (bc _)) (pv 2) (aL gk (aL qG ao ao) (aL jX (pv 2) ao))))))))),?_⟩
 ext;refine cR.of tp ∅ ⋯ ⋯ fun v1 H1 l1 u1 t1 s1=>?_
 ext;refine dW (fun c1=>?_) (fun c1=>?_)
 ·refine cR.of t1 ∅ ⋯ ⋯ fun v2 H2 l2 u2 t2 s2=>?_
  exact q v2 H2 l2 ∅ (t2.mono ∅) (s1.trans s2)
 ·refine dW (fun c2=>?_) (fun c2=>?_)
  ·refine cR.of t1 ∅ ⋯ ⋯ fun v2 H2 l2 u2 t2 s2=>?_
   exact q v2 H2 l2 ∅ (t2.mono ∅) (s1.trans s2)
  ·refine⟨⟨⋯,⋯,⋯⟩,?_⟩
   refine cR.of t1 ∅ ⋯ ⋯ fun v2 H2 l2 u2 t2 s2=>?_
   ext;have e6:(10:Int) ^ Int.toNat 6=1000000:=by decide
   have Wl:(10:Int) ^ Int.toNat 12=1000000000000:=by decide
   rw[e6] at u2;refine⟨⟨⋯,⋯,⋯⟩,.inr ⋯,⟨⋯,⋯,⋯⟩,?_⟩
   refine cR.of t2 ∅ ⋯ ⋯ fun v3 H3 l3 u3 t3 s3=>?_
   rw[e6] at u3;ext;rw[e6,Wl];refine dW (fun c3=>?_) (fun c3=>?_)
   ·exact q _ H3 ∅ ∅ (t3.mono ∅) (s1.trans (s2.trans s3))
   ·have m1:=xx (v2*1000000+v3) (show(3:Int)≠0 by decide)
    have m2:=Cu (v2*1000000+v3) (show(0:Int)<3 by decide)
    exact⟨⟨⋯,⋯,⋯⟩,⋯,q _ H3 ∅ ∅ (t3.mono ∅) (s1.trans (s2.trans s3))⟩
def Wu(i:Int):Prop:=0<=i/\i<=1000000000000
def abG(u:List Int):Prop:=∃a b c,u=[a,b,c]/\Wu a/\Wu b/\Wu c
structure StL(x:gD):Prop where
 w:Wu x.w
 r:0<=x.r
 c:x.cs.length=5
 cn:∀y∈x.cs,0<=y
 sm:x.r+x.cs.sum<=12
 s:0<=x.s/\x.s<=5
 t:0<=x.t/\x.t<=9
 u:x.us.length=3
 ul:∀y∈x.us,abG y
theorem Tc{x:eO}{st:gD}{ch:Int}(hx:R7 x)(hs:Ht st):Ht (fO x st ch):=by
 have hc:=hs.c;have ha:=hx.a;unfold fO;split
 ·exact hs
 ·split
  ·refine⟨?_,hs.u,hs.l⟩;simp only[cC,kI,Cp,fU,mX];omega
  ·refine⟨?_,hs.u,hs.l⟩;simp only[qL];exact hc
def Kf:Sp:=fun vs H Q _=>∃(v:V)(x:eO),vs=[v]/\At H (gM x) v/\∀u H',aK H H'->At H' (kh ⟨0,x.lo,[0,0,0,0,0],0,0,[[0,0,0],[0,0,0],[0,0,0]]⟩) u->Q u H'
theorem I_{H:Hp}{x:eO}{v:V}(h:At H (gM x) v):∃a b c d,v=.ref a/\H a=some (.tup [.int x.p,.int x.m,.ref b,.int x.a,.int x.e,.ref c,.ref d])/\H b=some (.tup [.int x.lo,.int x.hi])/\H c=some (.tup [.int x.u,.int x.d])/\At H (nQ x.ir) (.ref d):=by
 obtain⟨a,xs,rfl,h1,h2⟩:=aY h;obtain⟨x0,_,rfl,b0,h2⟩:=aa.aJ h2;obtain⟨x1,_,rfl,b1,h2⟩:=aa.aJ h2;obtain⟨x2,_,rfl,b2,h2⟩:=aa.aJ h2;obtain⟨x3,_,rfl,b3,h2⟩:=aa.aJ h2;obtain⟨x4,_,rfl,b4,h2⟩:=aa.aJ h2;obtain⟨x5,_,rfl,b5,h2⟩:=aa.aJ h2;obtain⟨x6,_,rfl,b6,h2⟩:=aa.aJ h2;cases aa.fH h2;unfold At at b0 b1 b3 b4;subst b0 b1 b3 b4;obtain⟨b,ys,rfl,g3,g4⟩:=aY b2;obtain⟨c,zs,rfl,g1,g2⟩:=aY b5;obtain⟨d,ws,rfl,_,_⟩:=aY b6;cases cF (cs:=[x.u,x.d]) g2;cases cF (cs:=[x.lo,x.hi]) g4;exact⟨a,b,c,d,rfl,h1,g3,g1,b6⟩
theorem nC:aV ["post","least","nothing"] ["post"] (aD jP):=(by walk_at "c")
theorem xX(F:jL K "first_stand" "first_stand" jP f fd)(B:Bi mg):bF P w K mg base iy (k+1) f fd ["post"] Kf:=by
 refine F.ok nC (hbody:=(0:))
 obtain⟨pA,x,rfl,a1,q⟩:=h;have ND:=nC.nd;refine⟨_,(aq (aR (i:=1) (aU aP (aU aP (pv 0) ao (fun _ _=>rfl)) ao (fun _ _=>rfl))) (aq (aR (i:=2) (bA (ak ao (ak ao (ak ao aj))))) (aF (aZ (bA (ak ao (ak (pv 1) (ak (bA (ak ao (ak ao (ak ao (ak ao (ak ao aj)))))) (ak ao (ak ao (ak (bA (ak (pv 2) (ak (pv 2) (ak (pv 2) aj)))) aj))))))))))),?_⟩
 refine uO (I_ a1) fun pa pb pc pd lC p1 p2 p3 _=>?_; subst lC;ext;refine Ix.tup p1 (v:=.ref pb) rfl (Ix.tup p2 (v:=.int x.lo) rfl ⟨⋯,fun p4 H4 f4 s4 e4=>⟨⋯,fun p5 H5 f5 s5 e5=>⟨⋯,fun p6 H6 f6 s6 e6=>⟨⋯,fun p7 H7 f7 s7 e7=>?_⟩⟩⟩⟩)
 have s47:=s5.trans (s6.trans s7);refine q _ _ (s4.trans s47) ?_;have tri:At H7 (j9 [0,0,0]) (.ref p4):=At.tup (s47 _ _ e4) (dD [0,0,0]);exact At.tup e7 (aa.cons (At.int _) (aa.cons (At.int _) (aa.cons (At.tup ((s6.trans s7) _ _ e5) (dD [0,0,0,0,0])) (aa.cons (At.int _) (aa.cons (At.int _) (aa.cons (At.tup (s7 _ _ e6) (aa.cons tri (aa.cons tri (aa.cons tri aa.nil)))) aa.nil))))))
theorem gq:∀cs:List Int,bD (cs.map PyData.int)=true
 | []=>rfl
 | c::cs=>by show(uR (.int c)&&bD (cs.map .int))=true; rw[gq cs]; rfl
theorem Eu:∀us:List (List Int),bD (us.map j9)=true
 | []=>rfl
 | u::us=>by
  show(bD (u.map PyData.int)&&bD (us.map j9))=true;rw[Eu us,gq u]; rfl
theorem B_(n:gD):uR (kh n)=true:=by
 simp only[kh,uR,bD,gq,Eu,Bool.and_self]
structure Vw(r:jx):Prop where
 is:yK r
 g:r.g∈(["over","under","each"]:List Str)
 z:r.g = "each" -> r.t=0
 t:r.g ≠ "each" -> -12<=r.t/\r.t<=12/\r.t≠0
def P0:Sp:=fun vs H Q _=>∃(a:Addr)(n:Nat)(b:Bool),vs=[.ref a,.bl b]/\Tp H a n/\n<=800000000/\∀v r H',Vw r->At (hid a H') (Ck r) v->Tp H' a (n+12)->SX a H H'->Q v H'
def Pr(c:TT)(a b:TE):TE:=Pu c a b
theorem ad1{c:TT}{b:TE}:Pu c (mU 6) b=Pr c (mU 6) b:=rfl
theorem Pr.of{c:TT}{a b:TE}{σ:St}{H:Hp}{Q:VK}(R:V->Hp->Prop)(hR:∀v H',R v H'->Q v H')(h:∀N:VK,(∀v H',R v H'->N v H')->Pu c a b σ H N):Pr c a b σ H Q:=h _ hR
theorem Row.of{a:Addr}{n:Nat}{b:Bool}{H:Hp}{Q:VK}{E:XK}(t:Tp H a n)(hn:n<=800000000)(q:∀v r H',Vw r->At (hid a H') (Ck r) v->Tp H' a (n+12)->SX a H H'->Q v H'):P0 ([.ref a,.bl b]++[]) H Q E:=⟨a,n,b,rfl,t,hn,q⟩
theorem Fo:aV ["_law_tape_here","_law_small","_law_sign","_law_what","_law_span","_law_number","_law_step"] AN (aD Ci):=(by walk_at "c")
theorem QR(F:jL K "_law_row" "_law_row" Ci f fd)(B:Bi mg)(aM:Ct P w K mg base k "_law_draw" AL il)(lB:Ct P w K mg base k "_law_units" AM rC):bF P w K mg base iy (k+1) f fd AN P0:=by
 refine F.ok Fo (hbody:=(0:))
 refine kJ h fun a n b iQ tp hn q=>?_; clear h; subst iQ;have ND:=Fo.nd;refine⟨_,(aq (aR (i:=2) (aU aP (cG (ak fZ (ak fZ (ak fZ aj)))) (pf aM hr (ak (pv 0) (ak ao aj))) (fun _ _=>rfl))) (aq (aR (i:=3) (aU aP (cG (ak fZ (ak fZ (ak fZ (ak fZ aj))))) (pf aM hr (ak (pv 0) (ak ao aj))) (fun _ _=>rfl))) (aq (aR (i:=4) (gf (gK (pv 1)) (aU aP (cG (ak ao (ak ao (ak ao (ak (aL bu ao (pf aM hr (ak (pv 0) (ak ao aj)))) aj))))) (pf aM hr (ak (pv 0) (ak ao aj))) (fun _ _=>rfl)) (aL bu ao (pf aM hr (ak (pv 0) (ak ao aj)))))) (aq (aR (i:=5) (gf (gK (pv 1)) (pf aM hr (ak (pv 0) (ak ao aj))) (pf lB hr (ak (pv 0) aj)))) (aq (cN (bf jh (pv 2) fZ (bc _)) (aF (aZ (bA (ak (pv 3) (ak (pv 4) (ak (pv 2) (ak (pb (gQ rfl) B.max oW (ak ao (ak (pv 5) aj))) (ak ao aj)))))))) bI) (aq (aR (i:=6) (aL bu ao (pf aM hr (ak (pv 0) (ak (gf (gK (pv 1)) ao ao) aj))))) (aF (aZ (bA (ak (pv 3) (ak (pv 4) (ak (pv 2) (ak (pv 5) (ak (gf (bf uQ (aL bu (pf aM hr (ak (pv 0) (ak ao aj))) (aL jg (pt (Br) B.int RW (ak (eX jh (pv 2) fZ (bc _)) aj)) ao)) ao (bc _)) (pv 6) (aL gk ao (pv 6))) aj)))))))))))))),?_⟩
 simp only[Kg 4,Kg 5,Kg 6,ad1];ext;refine⟨⋯,fun p1 H1 f1 s1 e1=>?_⟩
 refine cR.of (tp.same s1) ∅ ⋯ ⋯ fun y1 H2 l2 u2 t2 s2=>?_
 have n1:p1≠a:=tp.ne f1;obtain⟨g,hg,eg⟩:=Aw (ts:=["over","under","each"]) l2 u2;refine Ix.lst (s2.get n1 e1) eg ?_;refine⟨⋯,fun p3 H3 f3 s3 e3=>?_⟩
 refine cR.of (t2.same s3) ∅ ⋯ ⋯ fun y4 H4 l4 u4 t4 s4=>?_
 have n3:p3≠a:=t2.ne f3;obtain⟨w,hw,ew⟩:=Aw (ts:=["come","done","wait","wait"]) l4 u4
 have hw':w∈(["come","done","wait"]:List Str):=by
  simp only[bB,dM,or_false] at hw ⊢;rcases hw with z | z | z | z
  ·exact .inl z
  ·exact .inr (.inl z)
  ·exact .inr (.inr z)
  ·exact .inr (.inr z)
 refine Ix.lst (s4.get n3 e3) ew ?_;have sx4:SX a H H4:=(SX.of s1).trans (s2.trans ((SX.of s3).trans s4))
 have fin:∀(sp:Nat)(nn tt:Int)(H8:Hp)(m:Nat),(1<=sp/\sp<=4)->Tp H8 a m->m<=n+12->SX a H H8->(0<=nn/\nn<=1000000000000)->(g = "each" -> 1<=nn)->(g = "each" -> tt=0)->(g ≠ "each" -> -12<=tt/\tt<=12/\tt≠0)->∀p H',H8 p=none->aK H8 H'->H' p=some (.tup [.str w,.int sp,.str g,.int nn,.int tt])->Q (.ref p) H':=fun sp nn tt H8 m hsp t8 hm s8 hnn hge hz ht p H' fp sp' ep=>by
  have pa:p≠a:=t8.ne fp;refine q _ ⟨w,sp,g,nn,tt⟩ H' ⟨⟨hw',hsp,hnn,hge⟩,hg,hz,ht⟩ (At.tup (by rw[dw pa]; exact ep) ?_) ((t8.same sp').mono hm) (s8.trans (SX.of sp'))
  exact aa.cons (At.str _) (aa.cons (At.int _) (aa.cons (At.str _) (aa.cons (At.int _) (aa.cons (At.int _) aa.nil))))
 cases b with
 | false=>
  show lF _ _ _ _ _;ext;refine cR.of t4 ∅ ⋯ ⋯ fun y5 H5 l5 u5 t5 s5=>?_
  ext;show lF _ _ _ _ _;ext;refine R4.of t5 ∅ fun num H6 l6 u6 t6 s6=>?_
  ext;obtain⟨sp,hsp⟩:∃sp:Nat,1+y5=(sp:Int):=⟨(1+y5).toNat,∅⟩
  rw[hsp];have sx:SX a H H6:=sx4.trans (s5.trans s6);refine dW (fun c1=>?_) (fun c1=>?_)
  ·exact⟨⋯,fin _ _ _ H6 _ ∅ t6 ∅ sx (by split <;> omega) (fun _=>by split <;> omega) (fun _=>rfl) (fun z=>absurd (Cr c1) z)⟩
  ·have c1':=MT c1;show lF _ _ _ _ _;ext;refine cR.of t6 ∅ ⋯ ⋯ fun y8 H8 l8 u8 t8 s8=>?_
   ext;refine Pr.of (R:=fun v H9=>∃tt:Int,v=.int tt/\(-12<=tt/\tt<=12/\tt≠0)/\Tp H9 a (n+12)/\SX a H H9) ?_ ?_
   ·rintro v H9 ⟨tt,rfl,ht,t9,s9⟩;exact⟨⋯,fin _ _ _ H9 _ ∅ t9 ∅ s9 ⟨l6,u6⟩ (fun z=>absurd z c1') (fun z=>absurd z c1') (fun _=>ht)⟩
   ·intro N hN;ext;refine cR.of t8 ∅ ⋯ ⋯ fun y9 H9 l9 u9 t9 s9=>?_
    ext;refine⟨.inr ⋯,?_⟩
    refine dW (fun c2=>?_) (fun c2=>?_)
    ·exact hN _ _ ⟨_,rfl,∅,t9.mono ∅,sx.trans (s8.trans s9)⟩
    ·exact hN _ _ ⟨_,rfl,∅,t9.mono ∅,sx.trans (s8.trans s9)⟩
 | true=>
  show lF _ _ _ _ _;ext;refine cR.of t4 ∅ ⋯ ⋯ fun y5 H5 l5 u5 t5 s5=>?_
  ext;refine⟨⋯,fun p6 H6 f6 s6 e6=>?_⟩
  refine cR.of (t5.same s6) ∅ ⋯ ⋯ fun y7 H7 l7 u7 t7 s7=>?_
  have n6:p6≠a:=t5.ne f6;obtain⟨x,hx,ex⟩:=Ax (ts:=[1,1,1,1+y5]) l7 u7;refine Ix.lst (s7.get n6 e6) ex ?_
  have hx':1<=x/\x<=4:=by
   simp only[bB,dM,or_false] at hx;rcases hx with rfl | rfl | rfl | rfl <;> omega
  show lF _ _ _ _ _;ext;refine cR.of t7 ∅ ⋯ ⋯ fun num H8 l8 u8 t8 s8=>?_
  ext;obtain⟨sp,rfl⟩:∃sp:Nat,x=(sp:Int):=⟨x.toNat,∅⟩
  have sx:SX a H H8:=sx4.trans (s5.trans ((SX.of s6).trans (s7.trans s8)));refine dW (fun c1=>?_) (fun c1=>?_)
  ·exact⟨⋯,fin _ _ _ H8 _ ∅ t8 ∅ sx (by split <;> omega) (fun _=>by split <;> omega) (fun _=>rfl) (fun z=>absurd (Cr c1) z)⟩
  ·have c1':=MT c1;show lF _ _ _ _ _;ext;refine cR.of t8 ∅ ⋯ ⋯ fun y8 H9 l9 u9 t9 s9=>?_
   ext;refine Pr.of (R:=fun v H9=>∃tt:Int,v=.int tt/\(-12<=tt/\tt<=12/\tt≠0)/\Tp H9 a (n+12)/\SX a H H9) ?_ ?_
   ·rintro v R8 ⟨tt,rfl,ht,t11,Iu⟩;exact⟨⋯,fin _ _ _ R8 _ ∅ t11 ∅ Iu ∅ (fun z=>absurd z c1') (fun z=>absurd z c1') (fun _=>ht)⟩
   ·intro N hN;ext;refine cR.of t9 ∅ ⋯ ⋯ fun y9 J0 l10 u10 t10 Ah=>?_
    ext;refine⟨.inr ⋯,?_⟩
    refine dW (fun c2=>?_) (fun c2=>?_)
    ·exact hN _ _ ⟨_,rfl,∅,t10.mono ∅,sx.trans (s9.trans Ah)⟩
    ·exact hN _ _ ⟨_,rfl,∅,t10.mono ∅,sx.trans (s9.trans Ah)⟩
theorem Tz(r:jx):uR (Ck r)=true:=rfl
theorem xn(rs:List jx):uR (uM rs)=true:=by
 show bD (rs.map Ck)=true;exact bj.mpr fun d hd=>by obtain⟨r,_,rfl⟩:=dZ.mp hd; rfl
structure YJ(rs:List jx):Prop where
 lo:1<=rs.length
 hi:rs.length<=4
 g:∀r∈rs,Vw r
def Kc:Sp:=fun vs H Q _=>∃(a:Addr)(n:Nat)(bs:Bool),vs=[.ref a,.bl bs]/\Tp H a n/\n<=700000000/\∀p ir H',ir.length<=3->(∀rs∈ir,YJ rs)->At (hid a H') (nQ ir) (.ref p)->Tp H' a (n+300)->SX a H H'->Q (.ref p) H'
theorem wU:aV ["_law_tape_here","_law_small","_law_rules_here","_law_k"] AN (aD tQ):=(by walk_at "c")
theorem Ji(F:jL K "_law_rules" "_law_rules" tQ f fd)(B:Bi mg)(aM:Ct P w K mg base k "_law_draw" AL il)(Vm:Ct P w K mg base k "_law_row" AN P0):bF P w K mg base iy (k+1) f fd AN Kc:=by
 refine F.ok wU (hbody:=(0:))
 refine kJ h fun a n bs iQ tp hn q=>?_; clear h; subst iQ;have ND:=wU.nd;refine⟨_,(aq (aR (i:=2) (cG aj)) (aq (gO PassesOwn.never rfl (eV (by rfl) B.range (ak (pf aM hr (ak (pv 0) (ak (gf (gK (pv 1)) ao ao) aj))) aj)) (aC (i:=3)) (aF (dq (lW (K:=K) rfl PySem.F.plainAttrs_list PySem.F.slot_list_append PySem.F.type_list_append eZ (pv 2) (ak (pt (pH) B.tuple sU (ak (cX (N':=["_law_j","_law_tape_here","_law_small"]) (js:=[0,1]) rfl (eV (by rfl) B.range (ak (aL bu ao (pf aM hr (ak (pv 0) (ak (gf (gK (pv 1)) ao ao) aj)))) aj)) sX.mk2 rfl ⋯ rfl (fun fp s' H'=>(pf Vm hr (ak (pv 1) (ak (pv 2) aj))))) aj)) aj))))) (aF (aZ (pt (pH) B.tuple sU (ak (pv 2) aj)))))),?_⟩
 ext;refine⟨gC _,fun p H1 f1 s1 e1=>?_⟩;have pa:p≠a:=tp.ne f1;rw[m_];ext;refine(fun(hT:∀(m:Int) (H2:Hp),0<=m->m<4->Tp H2 a (n+1)->SX a H1 H2->FK _ _ _ _ [.int m] H2)=>dW (fun _=>cR.of (tp.same s1) ∅ ⋯ ⋯ fun m H2 l2 u2 t2 s2=>hT m H2 l2 ∅ t2 s2) (fun _=>cR.of (tp.same s1) ∅ ⋯ ⋯ fun m H2 l2 u2 t2 s2=>hT m H2 l2 ∅ t2 s2)) ?_
 intro m H2 l2 u2 t2 s2;refine FK.of (n:=m.toNat) ∅ ∅ (fun i σ H'=>∃(ir:List (List jx))(ys:List V)(o3:Option V),σ=[some (.ref a),some (.bl bs),some (.ref p),o3]/\ir.length=i/\ys.length=i/\(∀rs∈ir,YJ rs)/\H' p=some (.lst ys)/\aa (hid p (hid a H')) (ir.map uM) ys/\Tp H' a (n+1+60*i)/\SX a H H')
  ⟨[],[],_,rfl,rfl,rfl,fun d h=>by simp at h,s2.get pa e1,aa.nil,t2,(SX.of s1).trans s2⟩ ?_ ?_
 ·intro i σ H3 hi Hw; refine Qx Hw fun ir ys o3 iQ ld ly od h3 a3 t3 s3=>?_; clear Hw; subst iQ;ext;refine⟨.inl ⟨rfl,_,bT.of h3⟩,?_⟩;rw[tH];ext;refine(fun(hT:∀(r:Int) (H4:Hp),0<=r->r<4->Tp H4 a (n+1+60*i+1)->SX a H3 H4->∃i_1 j_1,V.int 1=V.int i_1/\V.int r=V.int j_1/\CK _ _ _ _ [.int (i_1+j_1)] H4)=>dW (fun _=>cR.of t3 ∅ ⋯ ⋯ fun r H4 l4 u4 t4 s4=>hT r H4 l4 ∅ t4 s4) (fun _=>cR.of t3 ∅ ⋯ ⋯ fun r H4 l4 u4 t4 s4=>hT r H4 l4 ∅ t4 s4)) ?_
  intro r H4 l4 u4 t4 s4;have h4:=s4.get pa h3;ext;refine CK.of (n:=(1+r).toNat) ∅ ∅ fun acc hacc=>?_
  have ca:acc≠a:=t4.ne hacc;have cp:acc≠p:=fun z=>by subst z; rw[hacc] at h4; cases h4
  refine⟨fun j zs H'=>∃es:List jx,es.length=j/\zs.length=j/\(∀d∈es,Vw d)/\aa (hid acc (hid a H')) (es.map Ck) zs/\H' acc=some (.lst zs)/\Tp H' a (n+1+60*i+1+12*j)/\SX a H4 H',?_,?_,?_⟩
  ·exact⟨[],rfl,rfl,fun d h=>by simp at h,aa.nil,aA,t4.fW ca,(SX.refl a H4).fW hacc ca⟩
  ·intro j zs H5 hj ZK; refine mL ZK fun es le lz iQ=>?_; clear ZK; refine xP iQ fun oe a5 c5 t5 s5=>?_; clear iQ;show iU _ _ _ _ [some _,some (.ref a),some (.bl bs)] H5 _;ext;refine Row.of t5 ∅ fun v d H6 rk a6 t6 s6=>?_
   have c6:=s6.get ca c5;have c6':hid a H6 acc=some (.lst zs):=by rw[dw ca]; exact c6
   refine⟨c6,(by rw[lz]; exact aQ ∅),es++[d],by rw[cC,le]; rfl,by rw[cC,lz]; rfl,fun x hx=>?_,?_,aA,?_,?_⟩
   ·rcases d_.mp hx with z | z
    ·exact oe x z
    ·rw[fV.mp z]; exact rk
   ·rw[jj ca,v9,gJ];exact(a5.mono (aK.hid s6)).append (aa.cons (At.Jy c6' _ v (Tz d) a6) aa.nil)
   ·exact(t6.fW ca).mono ∅
   ·exact(s5.trans s6).fW hacc ca
  ·intro zs H6 Vz; refine mL Vz fun es le lz iQ=>?_; clear Vz; refine xP iQ fun oe a6 c6 t6 s6=>?_; clear iQ;have h6:=s6.get pa h4;refine⟨acc,zs,rfl,c6,fun l hl=>?_⟩;have la:l≠a:=t6.ne hl;have lp:l≠p:=fun z=>by subst z; rw[hl] at h6; cases h6
   refine⟨p,ys,_,rfl,rfl,by rw[aH (Ne.symm lp)]; exact h6,by rw[ly]; exact aQ ∅,?_⟩
   have A1:At (hid a (upd H6 l (.tup zs))) (uM es) (.ref l):=by
    rw[jj la];have fr:hid a H6 l=none:=by rw[dw la]; exact hl
    exact At.tup aA ((a6.mono rR).mono (aO fr _))
   have h7:hid a (upd H6 l (.tup zs)) p=some (.lst ys):=by rw[dw pa,aH (Ne.symm lp)]; exact h6
   have s67:SX a H3 (upd H6 l (.tup zs)):=(s4.trans s6).trans (SX.of (aO hl _));refine⟨ir++[es],ys++[.ref l],_,rfl,by rw[cC,ld]; rfl,by rw[cC,ly]; rfl,fun x hx=>?_,aA,?_,?_,?_⟩
   ·rcases d_.mp hx with z | z
    ·exact od x z
    ·rw[fV.mp z]; exact⟨∅,∅,oe⟩
   ·rw[jj pa,v9,gJ];exact(a3.mono (aK.hid s67)).append (aa.cons (At.Jy h7 _ _ (xn es) A1) aa.nil)
   ·exact((t6.fW la).fW pa).mono ∅
   ·exact(s3.trans s67).fW f1 pa
 ·intro σ H3 ZJ; refine Qx ZJ fun ir ys o3 iQ ld ly od h3 a3 t3 s3=>?_; clear ZJ; subst iQ;ext;refine⟨p,ys,rfl,h3,fun l hl=>?_⟩;have la:l≠a:=t3.ne hl;refine q l ir _ ∅ od ?_ ((t3.fW la).mono ∅) (s3.trans (SX.of (aO hl _)))
  rw[jj la];have fr:hid a H3 l=none:=by rw[dw la]; exact hl
  exact At.tup aA ((a3.mono rR).mono (aO fr _))
structure Ei(x:eO):Prop where
 p:1<=x.p/\x.p<=1000000
 m:Wu x.m
 lo:0<=x.lo/\x.lo<=x.hi
 hi:x.hi<=12
 a:x.a<=4
 e:1<=x.e/\x.e<=6
 u:0<=x.u/\x.u<=9
 d:0<=x.d/\x.d<=9
 n:x.ir.length<=3
 r:∀rs∈x.ir,YJ rs
theorem Ei.is{x:eO}(h:Ei x):R7 x:=⟨h.a,by have:=h.p; omega,by have:=h.n; omega,fun rs hrs r hr=>((h.r rs hrs).g r hr).is⟩
def P_:Sp:=fun vs H Q _=>∃(a:Addr)(n:Nat),vs=[.ref a]/\Tp H a n/\n<=100000000/\∀p x H',Ei x->At (hid a H') (gM x) (.ref p)->Tp H' a (n+400)->SX a H H'->Q (.ref p) H'
theorem Af:aV ["_law_tape_here","_law_pace","_law_most","_law_hands","_law_rests","_law_late","_law_every"] AM (aD xg):=(by walk_at "c")
theorem Nj(F:jL K "_law_post" "_law_post" xg f fd)(B:Bi mg)(aM:Ct P w K mg base k "_law_draw" AL il)(lB:Ct P w K mg base k "_law_units" AM rC)(Od:Ct P w K mg base k "_law_rules" AN Kc):bF P w K mg base iy (k+1) f fd AM P_:=by
 refine F.ok Af (hbody:=(0:))
 obtain⟨a,n,rfl,tp,hn,q⟩:=h;have ND:=Af.nd;refine⟨_,(aq (aR (i:=1) (aU aP (cG (ak ao (ak (aL bu ao (pf aM hr (ak (pv 0) (ak ao aj)))) (ak (aL bu ao (pf aM hr (ak (pv 0) (ak (aL qG ao ao) aj)))) aj)))) (pf aM hr (ak (pv 0) (ak ao aj))) (fun _ _=>rfl))) (aq (aR (i:=2) (pf aM hr (ak (pv 0) (ak ao aj)))) (aq (aR (i:=3) (bA (ak (pf aM hr (ak (pv 0) (ak (aL bu (pv 2) ao) aj))) (ak (pv 2) aj)))) (aq (aR (i:=4) (bA (ak (pf aM hr (ak (pv 0) (ak ao aj))) (ak (pf aM hr (ak (pv 0) (ak ao aj))) aj)))) (aq (t_ (i:=5) (j:=6) rfl ND rfl rfl ⋯ rfl rfl (ak (pf aM hr (ak (pv 0) (ak ao aj))) (ak (aL bu ao (pf aM hr (ak (pv 0) (ak ao aj)))) aj)) (by rfl)) (aF (aZ (bA (ak (pv 1) (ak (pf lB hr (ak (pv 0) aj)) (ak (pv 3) (ak (pv 5) (ak (pv 6) (ak (pv 4) (ak (pf Od hr (ak (pv 0) (ak pZ aj))) aj))))))))))))))),?_⟩
 have e6:(10:Int) ^ Int.toNat 6=1000000:=by decide
 ext;refine cR.of tp ∅ ⋯ ⋯ fun y1 H1 l1 u1 t1 s1=>?_
 ext;refine⟨⟨⋯,⋯,⋯⟩,cR.of t1 ∅ ⋯ ⋯ fun y2 H2 l2 u2 t2 s2=>⟨_,_,rfl,rfl,⋯,fun p3 H3 f3 s3 e3=>?_⟩⟩
 rw[e6] at u2;have n3:=t2.ne f3;refine cR.of (t2.same s3) ∅ ⋯ ⋯ fun y4 H4 l4 u4 t4 s4=>?_
 obtain⟨pc,hpc,epc⟩:=Ax (ts:=[1,1+y1,1+y2]) l4 u4
 have ad3:1<=pc/\pc<=1000000:=by
  simp only[bB,dM,or_false] at hpc;rcases hpc with rfl | rfl | rfl <;> omega
 refine Ix.lst (s4.get n3 e3) epc ?_;clear hpc epc l4 u4;refine cR.of t4 ∅ ⋯ ⋯ fun y5 H5 l5 u5 t5 s5=>⟨_,_,rfl,rfl,?_⟩
 refine cR.of t5 ∅ ∅ ∅ fun y6 H6 l6 u6 t6 s6=>⟨⋯,fun p7 H7 f7 s7 e7=>?_⟩
 have n7:=t6.ne f7;refine cR.of (t6.same s7) ∅ ⋯ ⋯ fun y8 H8 l8 u8 t8 s8=>?_
 refine cR.of t8 ∅ ⋯ ⋯ fun y9 H9 l9 u9 t9 s9=>⟨⋯,fun p10 J0 Wj Ah e10=>?_⟩
 have n10:=t9.ne Wj;refine cR.of (t9.same Ah) ∅ ⋯ ⋯ fun y11 R8 l11 u11 t11 Iu=>?_
 refine cR.of t11 ∅ ⋯ ⋯ fun y12 H12 l12 u12 t12 s12=>⟨_,_,rfl,rfl,_,_,rfl,?_⟩
 refine R4.of t12 ∅ fun y13 H13 l13 u13 t13 Cj=>?_
 refine⟨a,_,false,rfl,t13,∅,fun p14 ir H14 ad7 ad2 a14 t14 s14=>⟨⋯,fun p15 H15 f15 s15 Zt=>?_⟩⟩
 have n15:=t14.ne f15;obtain⟨la,hla⟩:∃la:Nat,y11=(la:Int):=⟨y11.toNat,∅⟩
 rw[hla] at Zt;have x10:SX a J0 H15:=Iu.trans (s12.trans (Cj.trans (s14.trans (SX.of s15))));have x7:SX a H7 H15:=s8.trans (s9.trans ((SX.of Ah).trans x10));refine q p15 ⟨pc,y13,y6,y5,la,1+y12,y8,y9,ir⟩ H15 ⟨ad3,⟨l13,u13⟩,by show 0<=y6/\y6<=y5; omega,by show y5<=12; omega,by show la<=4; omega,by show 1<=1+y12/\1+y12<=6; omega,by show 0<=y8/\y8<=9; omega,by show 0<=y9/\y9<=9; omega,ad7,ad2⟩ ?_ ((t14.same s15).mono ∅) ?_
 ·exact At.tup (by rw[dw n15]; exact Zt) (aa.cons (At.int _) (aa.cons (At.int _) (aa.cons (At.tup (by rw[dw n7]; exact x7.get n7 e7) (dD [y6,y5])) (aa.cons (At.int _) (aa.cons (At.int _) (aa.cons (At.tup (by rw[dw n10]; exact x10.get n10 e10) (dD [y8,y9])) (aa.cons (a14.mono (SX.of s15)) aa.nil)))))))
 ·exact s1.trans (s2.trans ((SX.of s3).trans (s4.trans (s5.trans (s6.trans ((SX.of s7).trans x7))))))
def ltr(c:Nat):Bool:=!(Builtin.Str.occurrences (Str.ofString "abcdefghijklmnopqrstuvwxyz") (tx [c]) 0 (Str.ofString "abcdefghijklmnopqrstuvwxyz").length 1).isEmpty
def nameB(cs:List Nat):Bool:=decide (1<=cs.length)&&decide (cs.length<=8)&&cs.all ltr
def YM(c:Nat):Prop:=97<=c/\c<=122
structure SJ(cs:List Nat):Prop where
 n:1<=cs.length/\cs.length<=8
 g:∀c∈cs,YM c
theorem XQ{c:Nat}(h:YM c):ltr c=true:=by
 have:∀d:Fin 26,ltr (97+d.val)=true:=by decide +kernel
 have h2:=this ⟨c-97,by have:=h.1; have:=h.2; omega⟩
 have e:97+(c-97)=c:=by have:=h.1; omega
 simpa[e] using h2
theorem SJ.is{cs:List Nat}(h:SJ cs):nameB cs=true:=by
 unfold nameB;rw[rH h.n.1,rH h.n.2,pK.mpr fun c hc=>XQ (h.g c hc)];rfl
def Il:Sp:=fun vs H Q _=>∃(cs:List Nat),vs=[.str (tx cs)]/\(∀c∈cs,c<128)/\cs.length<=1000/\∀H',aK H H'->Q (.bl (nameB cs)) H'
theorem wY:aV ["thing"] ["thing"] (aD tW):=(by walk_at "c")
theorem Jm(F:jL K "is_name" "is_name" tW f fd)(B:Bi mg)(O:Co K mg):bF P w K mg base iy (k+1) f fd ["thing"] Il:=by
 refine F.ok wY (hbody:=(0:))
 obtain⟨cs,rfl,ha,hz,q⟩:=h;have ND:=wY.nd;refine⟨_,(aq (cN (PW.pt (rK (n_ (gK (pb U4 B.isinstance qg (ak (pv 0) (ak (pty (by rfl) B.str Yy) aj))))) (lU (n_ (Gn xV xV ao (pb (sH) B.len dU (ak (pv 0) aj)) (CQ O.Ec)))))) (aF (aZ pZ)) bI) (aF (aZ (pb (uo rfl) B.all JR (ak (cX (N':=["sign"]) (js:=[]) rfl (Xr (pv 0)) sX.Ux rfl ⋯ rfl (fun fp s' H'=>(eX M_ (pv 0) (CP O.LETTERS) (by with_unfolding_all rfl)))) aj))))),?_⟩
 ext;refine⟨.str (tx cs),_,rfl,At.str _,?_⟩;ext;refine⟨tx cs,rfl,by rw[fj,sizeLine_eq]; omega,?_⟩
 rw[fj];refine aa5 (fun h=>?_) (fun h=>?_)
 ·refine aa5 (fun h2=>?_) (fun h2=>?_)
  ·have:nameB cs=false:=by
    have h3:¬cs.length<=8:=by simp at h2; omega
    unfold nameB; rw[mY h3]; simp
   rw[<- this]; exact q H (aK.refl H)
  ·refine Yu (l:=cs) (f:=ltr) (fun R hR=>by ext; exact hR) ha (by rw[sizeLine_eq]; omega) (fun c H1 s1 R hR=>?_) fun acc H1 s1 e1=>?_
   ·ext;exact⟨_,_,rfl,rfl,hR H1 (aK.refl H1)⟩
   ·refine⟨acc,_,rfl,e1,?_⟩;have h1:1<=cs.length:=by simp at h; omega
    have h3:cs.length<=8:=by simp at h2; omega
    have:nameB cs=(cs.map ltr).all id:=by unfold nameB; rw[rH h1,rH h3,List.all_map]; rfl
    rw[<- this]; exact q H1 s1
 ·have:nameB cs=false:=by
   have h3:¬1<=cs.length:=fun z=>h (by simp; omega)
   unfold nameB; rw[mY h3]; simp
  rw[<- this]; exact q H (aK.refl H)
theorem Name.of{cs:List Nat}{H:Hp}{Q:VK}{E:XK}(h:SJ cs)(q:∀H',aK H H'->Q (.bl true) H'):Il ([.str (tx cs)]++[]) H Q E:=
 ⟨cs,rfl,fun c hc=>by have:=(h.g c hc).2; omega,by have:=h.n.2; omega,fun H' s'=>by rw[h.is]; exact q H' s'⟩
theorem Q4:∀cs:List Nat,jn [] (cs.map fun c=>[c])=cs
 | []=>rfl
 | [c]=>rfl
 | c::d::r=>by
  show[c]++[]++jn [] ((d::r).map fun c=>[c])=_;rw[Q4 (d::r)]; rfl
theorem letter{i:Int}(h0:0<=i)(h1:i<26):yN (Str.ofString "abcdefghijklmnopqrstuvwxyz").cps.toList i=some (97+i.toNat):=by
 obtain⟨j,rfl⟩:∃j:Nat,i=(j:Int):=⟨i.toNat,∅⟩
 have hl:(Str.ofString "abcdefghijklmnopqrstuvwxyz").cps.toList=(List.range 26).map (97 + ·):=by decide +kernel
 rw[hl];refine a_ ?_;rw[cA,List.getElem?_range ∅]
 rfl
theorem Qe(l:List Nat){j:Int}(h0:0<=j)(h1:j<=l.length):Txt.slice (tx l) none (some j)=tx (l.take j.toNat):=by
 have:=beq_iff_eq.mp (PyProof.Rows.slice_closes_toL (x:=tx l) h0 (by rw[fj]; exact h1))
 rw[this,wH];simp[tx]
theorem Qf(l:List Nat){j:Int}(h0:0<=j)(h1:j<=l.length):Txt.slice (tx l) (some j) none=tx (l.drop j.toNat):=by
 have:=beq_iff_eq.mp (PyProof.Rows.slice_closes_fromL (x:=tx l) (b:=(tx l).length) h0 (by rw[fj]; exact h1) rfl)
 rw[this,wH,fj];unfold tx
 congr 2
 exact Qp (by rw[Cp]; omega)
theorem MP{m:Nat}{g:Nat->Option Nat}(h:∀i j,i<j->j<m->g i≠g j):((List.range m).map g).Nodup:=by
 unfold List.Nodup;rw[List.pairwise_map];refine List.Pairwise.imp_of_mem ?_ List.pairwise_lt_range;intro a b ha hb hab;exact h a b hab (List.mem_range.mp hb)
def Sy(y:Int)(i:Nat):Nat:=97+((y+7*(i:Int)) % 26).toNat
theorem abz(y:Int)(i:Nat):YM (Sy y i):=by
 unfold Sy YM;have:=xx (y+7*(i:Int)) (show(26:Int)≠0 by decide)
 have:=Cu (y+7*(i:Int)) (show(0:Int)<26 by decide)
 omega
theorem aby{y:Int}{i j:Nat}(h:i<j)(hj:j<26):Sy y i≠Sy y j:=by
 unfold Sy;have:=xx (y+7*(i:Int)) (show(26:Int)≠0 by decide)
 have:=xx (y+7*(j:Int)) (show(26:Int)≠0 by decide)
 omega
theorem word{a:Addr}{n:Nat}{LT:Str}{r:St}{H:Hp}{Q:VK}(hLl:LT.length<=sizeLine)(Q8:∀i:Int,0<=i->i<26->yN LT.cps.toList i=some (97+i.toNat))(hc:bQ [2,0] (some (.ref a)::r)=[some (.str LT),some (.ref a)])(tp:Tp H a n)(hn:n<=200000000)
  (q:∀acc (cs:List Nat) H',cs.length<=7->(∀c∈cs,YM c)->H' acc=some (.lst (cs.map fun c=>V.str (tx [c])))->Tp H' a (n+10)->SX a H H'->Q (.ref acc) H') :
  iB [2,0] (GR (iz (iU il [] E0 (iz (mU 0) (iz (tC (V.int 8)) qt))) qt)) (Ia aar (mU 1) (iU il [] E0 (iz (mU 2) (iz (tC (V.int 26)) qt)))) (some (.ref a)::r) H Q:=by
 rw[tH];ext;refine cR.of tp ∅ ⋯ ⋯ fun y6 H6 l6 u6 t6 s6=>?_
 refine CK.of (n:=y6.toNat) ∅ ∅ fun acc hacc=>?_
 have ca:acc≠a:=t6.ne hacc;refine⟨fun j ws H'=>∃cs:List Nat,cs.length=j/\ws=cs.map (fun c=>V.str (tx [c]))/\(∀c∈cs,YM c)/\H' acc=some (.lst ws)/\Tp H' a (n+1+j)/\SX a H6 H',?_,?_,?_⟩
 ·exact⟨[],rfl,rfl,fun d h=>by simp at h,aA,t6.fW ca,(SX.refl a H6).fW hacc ca⟩
 ·intro j ws H7 hj wz; refine mL wz fun cs lc cL iQ=>?_; clear wz; subst cL; obtain⟨hcs,c7,t7,s7⟩:=iQ;rw[hc];ext;refine cR.of t7 ∅ ⋯ ⋯ fun y8 H8 l8 u8 t8 s8=>?_
  refine⟨LT,_,_,rfl,rfl,hLl,Q8 y8 l8 u8,s8.get ca c7,by rw[bN,lc]; exact aQ ∅,cs++[97+y8.toNat],by rw[cC,lc]; rfl,by rw[gJ]; rfl,fun x hx=>?_,aA,(t8.fW ca).mono ∅,(s7.trans s8).fW hacc ca⟩
  rcases d_.mp hx with h | h
  ·exact hcs x h
  ·rw[fV.mp h]; unfold YM; omega
 ·rintro ws H7 ⟨cs,lc,rfl,hcs,c7,t7,s7⟩;exact q acc cs H7 ∅ hcs c7 (t7.mono ∅) (s6.trans s7)
theorem W_{a p:Addr}{H H':Hp}(s:SX a H H')(n:p≠a)(h:H' p=none):H p=none:=by
 cases e:H p with
 | none=>rfl
 | some o=>rw[s.get n e] at h; cases h
theorem Lb{cs:List Nat}(h:cs.length<=7):((cs.map fun c=>tx [c]).map fun x=>x.length).sum+(cs.map fun c=>tx [c]).length*(Str.ofString "").length<=sizeLine:=by
 have:=StrLaws.sumLen_le (B:=1) (cs.map fun c=>tx [c]) (fun y hy=>by
  obtain⟨x,hx,rfl⟩:=dZ.mp hy
  exact bw _)
 rw[bN] at this ⊢;rw[show(Str.ofString "").length=0 from rfl,sizeLine_eq];omega
def Xe:Sp:=fun vs H Q _=>∃(a:Addr)(n m:Nat),vs=[.ref a,.int m]/\m<=20/\Tp H a n/\n<=100000000/\∀p (zs:List (List Nat)) H',H p=none->p≠a->zs.length=m->(∀z∈zs,SJ z)->zs.Nodup->H' p=some (.lst (zs.map fun z=>V.str (tx z)))->Tp H' a (n+300)->SX a H H'->Q (.ref p) H'
theorem wW:aV ["_law_tape_here","_law_many","_law_letters","_law_first","_law_stem","_law_spot","_law_like","_law_found","_law_k","_law_letter"] AL (aD tU):=(by walk_at "c")
theorem Jk(F:jL K "_law_names" "_law_names" tU f fd)(B:Bi mg)(aM:Ct P w K mg base k "_law_draw" AL il):bF P w K mg base iy (k+1) f fd AL Xe:=by
 refine F.ok wW (hbody:=(0:))
 refine kJ h fun a n m iQ hm tp BJ=>?_; clear h; subst iQ; obtain⟨hn,q⟩:=BJ;have ND:=wW.nd;refine⟨_,(aq (dN (bA (ak fZ (ak (pf aM hr (ak (pv 0) (ak ao aj))) aj))) (bR (K:=K) (n:=2) rfl rfl (aB (aC (i:=2)) (aB (aC (i:=3)) bC)))) (aq (aR (i:=4) (lW (K:=K) rfl PySem.F.plainAttrs_str PySem.F.slot_str_join PySem.F.type_str_join KR fZ (ak (cX (N':=["_law_k","_law_letters","_law_tape_here"]) (js:=[2,0]) rfl (eV (by rfl) B.range (ak (pf aM hr (ak (pv 0) (ak ao aj))) aj)) sX.mk2 rfl ⋯ rfl (fun fp s' H'=>(aU Jv (pv 1) (pf aM hr (ak (pv 2) (ak ao aj))) (fun _ _=>rfl)))) aj))) (aq (T7 (i:=5) (j:=6) (l:=7) rfl ND rfl rfl rfl rfl rfl rfl (ak (pf aM hr (ak (pv 0) (ak (aL bu (pb (sH) B.len dU (ak (pv 4) aj)) ao) aj))) (ak (eX jh (pf aM hr (ak (pv 0) (ak ao aj))) ao (bc _)) (ak (cG aj) aj))) (by rfl)) (aq (gO PassesOwn.never rfl (eV (by rfl) B.range (ak (pv 1) aj)) (aC (i:=8)) (aq (aR (i:=9) (aU Jv (pv 2) (aL jX (aL bu (pv 3) (aL jg ao (pv 8))) ao) (fun _ _=>rfl))) (aF (cN (gK (pv 6)) (aF (dq (lW (K:=K) rfl PySem.F.plainAttrs_list PySem.F.slot_list_append PySem.F.type_list_append eZ (pv 7) (ak (aL qH (aL qH (cY Qg (pv 4) eU (eQ (pv 5))) (pv 9)) (cY Qg (pv 4) (eQ (pv 5)) eU)) aj)))) (aF (dq (lW (K:=K) rfl PySem.F.plainAttrs_list PySem.F.slot_list_append PySem.F.type_list_append eZ (pv 7) (ak (aL qH (lW (K:=K) rfl PySem.F.plainAttrs_str PySem.F.slot_str_join PySem.F.type_str_join KR fZ (ak (cX (N':=["_law_turn","_law_letters","_law_tape_here"]) (js:=[2,0]) rfl (eV (by rfl) B.range (ak (pf aM hr (ak (pv 0) (ak ao aj))) aj)) sX.mk2 rfl ⋯ rfl (fun fp s' H'=>(aU Jv (pv 1) (pf aM hr (ak (pv 2) (ak ao aj))) (fun _ _=>rfl)))) aj)) (pv 9)) aj)))))))) (aF (aZ (pv 7))))))),?_⟩
 ext;refine cR.of tp ∅ ⋯ ⋯ fun y1 H1 l1 u1 t1 s1=>⟨⋯,fun p2 H2 f2 s2 e2=>?_⟩
 refine⟨p2,_,rfl,fK.of e2,rfl,?_⟩;generalize hL:Str.ofString "abcdefghijklmnopqrstuvwxyz" = LT;have hLl:LT.length<=sizeLine:=by rw[<- hL]; decide
 have Q8:∀i:Int,0<=i->i<26->yN LT.cps.toList i=some (97+i.toNat):=fun i h0 h1=>by rw[<- hL]; exact letter h0 h1
 ext;refine⟨rfl,?_⟩;refine word hLl Q8 rfl (t1.same s2) ∅ fun acc st H3 ls gs e3 t3 s3=>?_
 have ej:∀cs:List Nat,Str.join (Str.ofString "") (cs.map fun c=>tx [c])=tx cs:=fun cs=>by
  rw[show Str.ofString "" = tx [] from rfl,show(cs.map fun c=>tx [c])=(cs.map fun c=>[c]).map tx by rw[xH]; rfl,La,Q4]
 refine(Eg _ acc (st.map fun c=>tx [c]) ⟨rfl,rfl,by rw[e3,xH]; rfl,?_,?_⟩)
 ·exact Lb ls
 rw[ej];refine⟨tx st,rfl,by rw[fj,sizeLine_eq]; omega,?_⟩
 rw[fj];refine cR.of t3 ∅ ∅ ∅ fun y4 H4 l4 u4 t4 s4=>?_
 refine cR.of t4 ∅ ⋯ ⋯ fun y5 H5 l5 u5 t5 s5=>?_
 ext;refine⟨⋯,fun p H6 f6 s6 e6=>?_⟩
 have pa:=t5.ne f6;have x5:SX a H H5:=s1.trans ((SX.of s2).trans (s3.trans (s4.trans s5)));have fHp:H p=none:=W_ x5 pa f6;generalize decide (y5=0)=lk
 obtain⟨g,hg1,hg2⟩:∃g:List Nat->Option Nat,(∀c,lk=true->g (st.take y4.toNat++[c]++st.drop y4.toNat)=some c)/\∀b c,lk=false->g (b++[c])=some c:=by
  cases lk with
  | true=>exact⟨fun z=>z[y4.toNat]?,fun c _=>by
    show(st.take y4.toNat++[c]++st.drop y4.toNat)[y4.toNat]?=some c
    rw[FN,vy (by rw[kI]; omega),kI,Nat.min_eq_left ∅,xJ]; rfl,(fun _ _ h=>by cases h)⟩
  | false=>exact⟨fun z=>z.getLast?,(fun _ h=>by cases h),fun b c _=>by simp⟩
 refine(Eg _ _ _ ⟨rfl,?_⟩);rw[m_];ext;refine FK.of (n:=m) rfl ∅ (fun i σ H'=>∃(zs:List (List Nat))(o8 o9:Option V),σ=[some (.ref a),some (.int m),some (.str LT),some (.int y1),some (.str (tx st)),some (.int y4),some (.bl lk),some (.ref p),o8,o9]/\zs.length=i/\(∀z∈zs,SJ z)/\zs.map g=(List.range i).map (fun j=>some (Sy y1 j))/\H' p=some (.lst (zs.map fun z=>V.str (tx z)))/\Tp H' a (n+20+10*i)/\SX a H H')
  (Eg ([]) none none ⟨rfl,rfl,fun z hz=>by simp at hz,rfl,e6,(t5.same s6).mono ∅,x5.trans (SX.of s6)⟩) ?_ ?_
 ·intro i σ H7 hi Hw; refine kJ Hw fun zs o8 o9 iQ lz hzs BJ=>?_; clear Hw; subst iQ; obtain⟨hgz,e7,t7,s7⟩:=BJ;ext;refine⟨.inl ⟨∅,∅⟩,⋯,?_⟩
  have m0:=xx (y1+7*(0+(i:Int))) (show(26:Int)≠0 by decide)
  have m1:=Cu (y1+7*(0+(i:Int))) (show(0:Int)<26 by decide)
  refine(Eg LT _ _ ⟨rfl,rfl,hLl,Q8 _ m0 m1,?_⟩);have ec:97+((y1+7*(0+(i:Int))) % 26).toNat=Sy y1 i:=by unfold Sy; rw[Int.zero_add]
  rw[ec,WX];have abb:=abz y1 i
  have hcn:∀b:List Nat,g b=some (Sy y1 i)->(zs++[b]).map g=(List.range (i+1)).map fun j=>some (Sy y1 j):=fun b hb=>by
   rw[gJ,hgz,List.range_succ,gJ];simp[hb]
  have hmem:∀b:List Nat,SJ b->∀z∈zs++[b],SJ z:=fun b hb z hz=>by
   rcases d_.mp hz with h | h
   ·exact hzs z h
   ·rw[fV.mp h]; exact hb
  dsimp only;cases hlk:lk with
  | true=>
   rw[bh rfl];refine⟨.inl ⟨rfl,_,bT.of e7⟩,tx st,rfl,by rw[fj,sizeLine_eq]; omega,?_⟩
   rw[Qe st l4 ∅]
   refine⟨_,_,rfl,rfl,by rw[fj,fj,sizeLine_eq,kI]; simp only[fU,mX]; omega,tx st,rfl,by rw[fj,sizeLine_eq]; omega,?_⟩
   rw[Qf st l4 ∅,wI]
   refine⟨_,_,rfl,rfl,?_,?_⟩
   ·rw[fj,fj,sizeLine_eq]; simp only[cC,kI,Cp,fU,mX]; omega
   rw[wI];refine(Eg p _ _ ⟨rfl,rfl,e7,by rw[bN,lz]; exact aQ ∅,Eg (zs++[_]) _ _ ⟨rfl,by rw[cC,lz]; rfl,hmem _ ⟨?_,?_⟩,hcn _ (hg1 _ hlk),by rw[aA,gJ]; rfl,(t7.fW pa).mono ∅,s7.fW fHp pa⟩⟩)
   ·simp only[cC,kI,Cp,fU,mX]; omega
   ·intro c hc;rcases d_.mp hc with h | h
    ·rcases d_.mp h with h | h
     ·exact gs c (FQ h)
     ·rw[fV.mp h]; exact abb
    ·exact gs c (Kq h)
  | false=>
   rw[aX ⋯]
   refine⟨.inl ⟨rfl,_,bT.of e7⟩,rfl,?_⟩;refine word hLl Q8 rfl t7 ∅ fun Ol cs H8 lc gc e8 t8 s8=>?_
   refine(Eg _ Ol (cs.map fun c=>tx [c]) ⟨rfl,rfl,by rw[e8,xH]; rfl,Lb lc,?_⟩)
   rw[ej];refine⟨_,_,rfl,rfl,by rw[fj,fj,sizeLine_eq]; simp only[fU,mX]; omega,?_⟩
   rw[wI];refine(Eg p _ _ ⟨rfl,rfl,s8.get pa e7,by rw[bN,lz]; exact aQ ∅,Eg (zs++[_]) _ _ ⟨rfl,by rw[cC,lz]; rfl,hmem _ ⟨?_,?_⟩,hcn _ (hg2 _ _ hlk),by rw[aA,gJ]; rfl,(t8.fW pa).mono ∅,(s7.trans s8).fW fHp pa⟩⟩)
   ·simp only[cC,fU,mX]; omega
   ·intro c hc;rcases d_.mp hc with h | h
    ·exact gc c h
    ·rw[fV.mp h]; exact abb
 ·rintro σ H7 ⟨zs,o8,o9,rfl,lz,hzs,hgz,e7,t7,s7⟩;ext;refine q p zs H7 fHp pa lz hzs ?_ e7 (t7.mono ∅) s7
  have h1:(zs.map g).Nodup:=by
   rw[hgz];exact MP fun i j hij hj z=>aby hij ∅ (Option.some.inj z)
  unfold List.Nodup at h1 ⊢;rw[List.pairwise_map] at h1;exact h1.imp fun h e=>h (by rw[e])
theorem Nm.of{a:Addr}{n m:Nat}{j:Int}{H:Hp}{Q:VK}{E:XK}(ej:j=m)(hm:m<=20)(tp:Tp H a n)(hn:n<=100000000)(q:∀p (zs:List (List Nat)) H',H p=none->p≠a->zs.length=m->(∀z∈zs,SJ z)->zs.Nodup->H' p=some (.lst (zs.map fun z=>V.str (tx z)))->Tp H' a (n+300)->SX a H H'->Q (.ref p) H'):Xe ([.ref a,.int j]++[]) H Q E:=by
 subst ej;exact⟨a,n,m,rfl,hm,tp,hn,q⟩
theorem rM(x:eO):uR (gM x)=true:=by
 have h:uR (nQ x.ir)=true:=by
  show bD (x.ir.map uM)=true;exact bj.mpr fun d hd=>by obtain⟨rs,_,rfl⟩:=dZ.mp hd; exact xn rs
 unfold gM QD;simp[uR,bD,h]
theorem fY(xs:List eO):bD (xs.map gM)=true:=bj.mpr fun d hd=>by obtain⟨x,_,rfl⟩:=dZ.mp hd; exact rM x
theorem dY(xs:List gD):bD (xs.map kh)=true:=bj.mpr fun d hd=>by obtain⟨x,_,rfl⟩:=dZ.mp hd; exact B_ x
theorem Ti(l:List Int):uR (j9 l)=true:=by show bD (l.map PyData.int)=true; exact gq l
theorem lE(xs:List (List Int)):bD (xs.map j9)=true:=bj.mpr fun d hd=>by obtain⟨x,_,rfl⟩:=dZ.mp hd; exact Ti x
structure Rw where
 n:Str
 c:Int
 d:Int
 a:Int
 h:Int
def vU(r:Rw):PyData:=.tuple [.str r.n,.int r.c,.int r.d,.int r.a,.int r.h]
theorem rw_noL(r:Rw):uR (vU r)=true:=rfl
theorem jC(xs:List Rw):bD (xs.map vU)=true:=bj.mpr fun d hd=>by obtain⟨x,_,rfl⟩:=dZ.mp hd; exact rw_noL x
structure Yd where
 tot:Int
 ns:List Str
 ps:List eO
 os:List (Option Str)
 ss:List gD
 ts:List (List Int)
 pa:List (List Rw)
structure Ya where
 p:Addr
 lo:Addr
 dp:Addr
 dn:Addr
 ds:Addr
 dt:Addr
 lp:Addr
 qW:List Addr
def Ya.own(a:Ya):List Addr:=[a.p,a.lo,a.dp,a.dn,a.ds,a.dt,a.lp]++a.qW
def Ds(t:Int)(lo dp dn ds dt lp:Addr):List (Str×V):=[("total",.int t),("order",.ref lo),("posts",.ref dp),("onwards",.ref dn),("stands",.ref ds),("tallies",.ref dt),("past",.ref lp)]
section
variable(t:Int)(lo dp dn ds dt lp:Addr)
theorem Rr:(Ds t lo dp dn ds dt lp).lookup ("total" : Str)=some (.int t):=by kernel_rfl
theorem yx:(Ds t lo dp dn ds dt lp).lookup ("order" : Str)=some (.ref lo):=by kernel_rfl
theorem Rt:(Ds t lo dp dn ds dt lp).lookup ("posts" : Str)=some (.ref dp):=by kernel_rfl
theorem JD:(Ds t lo dp dn ds dt lp).lookup ("onwards" : Str)=some (.ref dn):=by kernel_rfl
theorem o_:(Ds t lo dp dn ds dt lp).lookup ("stands" : Str)=some (.ref ds):=by kernel_rfl
theorem qM:(Ds t lo dp dn ds dt lp).lookup ("tallies" : Str)=some (.ref dt):=by kernel_rfl
theorem Dt:(Ds t lo dp dn ds dt lp).lookup ("past" : Str)=some (.ref lp):=by kernel_rfl
end
def qX:Option Str->V
 | none=>.non
 | some s=>.str s
def Up:Option Str->PyData
 | none=>.none
 | some s=>.str s
theorem QQ(o:Option Str):uR (Up o)=true:=by cases o <;> rfl
theorem Uo(os:List (Option Str)):bD (os.map Up)=true:=bj.mpr fun d hd=>by obtain⟨x,_,rfl⟩:=dZ.mp hd; exact QQ x
theorem V8{H:Hp}(o:Option Str):At H (Up o) (qX o):=by cases o with
 | none=>show At _ .none .non; unfold At; rfl
 | some z=>exact At.str _
theorem V7{H:Hp}{o:Option Str}{v:V}(h:At H (Up o) v):v=qX o:=by
 cases o with
 | none=>unfold Up At at h; exact h
 | some z=>unfold Up At at h; exact h
theorem QM{H:Hp}:∀{os:List (Option Str)}{vs:List V},aa H (os.map Up) vs->vs=os.map qX
 | [],_,h=>aa.fH h
 | o::os,vs,h=>by
  obtain⟨x,r,rfl,h1,h2⟩:=aa.aJ h;rw[V7 h1,QM h2]; rfl
def bU(H:Hp):List Addr->List (List Rw)->Prop
 | [],[]=>True
 | l::ls,r::rs=>(∃xs,H l=some (.lst xs)/\aa H (r.map vU) xs)/\bU H ls rs
 | _,_=>False
theorem bU.length{H:Hp}:∀{ls:List Addr}{rs:List (List Rw)},bU H ls rs->ls.length=rs.length
 | [],[],_=>rfl
 | l::ls,r::rs,h=>by rw[fU,fU,bU.length h.2]
 | [],_::_,h=>h.elim
 | _::_,[],h=>h.elim
theorem bU.keep{H H':Hp}(m:fJ H H'):∀{ls:List Addr}{rs:List (List Rw)},bU H ls rs->(∀b∈ls,∀o,H b=some o->H' b=some o)->bU H' ls rs
 | [],[],_,_=>trivial
 | l::ls,r::rs,h,k=>by
  obtain⟨⟨xs,e,a⟩,h2⟩:=h;exact⟨⟨xs,k l (dg ..) _ e,aa.kp m _ _ (jC r) a⟩,bU.keep m h2 fun b hb=>k b (cI _ hb)⟩
 | [],_::_,h,_=>h.elim
 | _::_,[],h,_=>h.elim
theorem bU.snoc{H:Hp}:∀{ls:List Addr}{rs:List (List Rw)}{l:Addr}{r:List Rw}{xs:List V},bU H ls rs->H l=some (.lst xs)->aa H (r.map vU) xs->bU H (ls++[l]) (rs++[r])
 | [],[],l,r,xs,_,e,a=>⟨⟨xs,e,a⟩,trivial⟩
 | l::ls,r::rs,_,_,_,h,e,a=>⟨h.1,bU.snoc h.2 e a⟩
 | [],_::_,_,_,_,h,_,_=>h.elim
 | _::_,[],_,_,_,h,_,_=>h.elim
theorem bU.all{H:Hp}:∀{ls:List Addr}{rs:List (List Rw)},bU H ls rs->∀b∈ls,∃xs,H b=some (.lst xs)
 | [],[],_,b,hb=>by simp at hb
 | l::ls,r::rs,h,b,hb=>by
  rcases bB.mp hb with e | e
  ·subst e; obtain⟨⟨xs,e,_⟩,_⟩:=h; exact⟨xs,e⟩
  ·exact bU.all h.2 b e
 | [],_::_,h,_,_=>h.elim
 | _::_,[],h,_,_=>h.elim
structure bM(C:Addr)(H:Hp)(a:Ya)(y:Yd):Prop where
 ob:∃dx,H a.p=some (.ins C dx (Ds y.tot a.lo a.dp a.dn a.ds a.dt a.lp))
 lo:H a.lo=some (.lst (y.ns.map V.str))
 dp:∃vs,H a.dp=some (.dK (zK y.ns vs))/\aa H (y.ps.map gM) vs
 dn:H a.dn=some (.dK (zK y.ns (y.os.map qX)))
 ds:∃vs,H a.ds=some (.dK (zK y.ns vs))/\aa H (y.ss.map kh) vs
 dt:∃vs,H a.dt=some (.dK (zK y.ns vs))/\aa H (y.ts.map j9) vs
 lp:H a.lp=some (.lst (a.qW.map V.ref))
 pa:bU H a.qW y.pa
 nd:a.own.Nodup
theorem bM.keep{C:Addr}{H H':Hp}{a:Ya}{y:Yd}(A:bM C H a y)(m:fJ H H')(k:∀b∈a.own,∀o,H b=some o->H' b=some o):bM C H' a y:=by
 obtain⟨⟨dx,h1⟩,h2,⟨v3,h3,g3⟩,h4,⟨v5,h5,g5⟩,⟨v6,h6,g6⟩,h7,h8,h9⟩:=A;have kk:∀b o,b∈[a.p,a.lo,a.dp,a.dn,a.ds,a.dt,a.lp]->H b=some o->H' b=some o:=fun b o hb e=>k b (M3 _ hb) o e;exact⟨⟨dx,kk _ _ (by simp) h1⟩,kk _ _ (by simp) h2,⟨v3,kk _ _ (by simp) h3,aa.kp m _ _ (fY _) g3⟩,kk _ _ (by simp) h4,⟨v5,kk _ _ (by simp) h5,aa.kp m _ _ (dY _) g5⟩,⟨v6,kk _ _ (by simp) h6,aa.kp m _ _ (lE _) g6⟩,kk _ _ (by simp) h7,h8.keep m fun b hb=>k b (iI _ hb),h9⟩
theorem bM.mono{C:Addr}{H H':Hp}{a:Ya}{y:Yd}(A:bM C H a y)(s:aK H H'):bM C H' a y:=A.keep s.kp fun b _ o e=>s b o e
theorem bM.al{C:Addr}{H:Hp}{a:Ya}{y:Yd}(A:bM C H a y):∀b∈a.own,∃o,H b=some o/\∀xs,o≠.tup xs:=fun b hb=>by
 obtain⟨⟨dx,h1⟩,h2,⟨v3,h3,g3⟩,h4,⟨v5,h5,g5⟩,⟨v6,h6,g6⟩,h7,h8,h9⟩:=A;rcases d_.mp hb with h | h
 ·simp only[bB,dM,or_false] at h;rcases h with rfl | rfl | rfl | rfl | rfl | rfl | rfl
  ·exact⟨_,h1,fun _ z=>by cases z⟩
  ·exact⟨_,h2,fun _ z=>by cases z⟩
  ·exact⟨_,h3,fun _ z=>by cases z⟩
  ·exact⟨_,h4,fun _ z=>by cases z⟩
  ·exact⟨_,h5,fun _ z=>by cases z⟩
  ·exact⟨_,h6,fun _ z=>by cases z⟩
  ·exact⟨_,h7,fun _ z=>by cases z⟩
 ·obtain⟨xs,e⟩:=h8.all b h;exact⟨_,e,fun _ z=>by cases z⟩
theorem bM.kp{C:Addr}{H H':Hp}{a:Ya}{y:Yd}(A:bM C H a y)(f:Fr a.own H H'):fJ H H':=f.kp fun b hb xs z=>by
 obtain⟨o,e,n⟩:=A.al b hb;rw[e] at z; cases z; exact n _ rfl
theorem bM.off{C:Addr}{H H':Hp}{a:Ya}{y:Yd}{S:List Addr}(A:bM C H a y)(f:Fr S H H')(m:fJ H H')(d:∀b∈a.own,b∉S):bM C H' a y:=A.keep m fun b hb o e=>f b o e (d b hb)
structure ZY(K:Frag)(C:Addr):Prop where
 cl:Hv K C
 n1:cJ K C "total"
 n2:cJ K C "order"
 n3:cJ K C "posts"
 n4:cJ K C "onwards"
 n5:cJ K C "stands"
 n6:cJ K C "tallies"
 n7:cJ K C "past"
section
variable{C:Addr}{H:Hp}{a:Ya}{y:Yd}{Q:VK}
theorem Fl.order(Z:ZY K C)(A:bM C H a y)(q:Q (.ref a.lo) H):∃p C' dx fs v,V.ref a.p=.ref p/\H p=some (.ins C' dx fs)/\Hv K C'/\cJ K C' "order" /\ fs.lookup ("order" : Str)=some v/\Q v H:=by
 obtain⟨dx,h⟩:=A.ob;exact⟨_,_,_,_,_,rfl,h,Z.cl,Z.n2,yx ..,q⟩
theorem Fl.stands(Z:ZY K C)(A:bM C H a y)(q:Q (.ref a.ds) H):∃p C' dx fs v,V.ref a.p=.ref p/\H p=some (.ins C' dx fs)/\Hv K C'/\cJ K C' "stands" /\ fs.lookup ("stands" : Str)=some v/\Q v H:=by
 obtain⟨dx,h⟩:=A.ob;exact⟨_,_,_,_,_,rfl,h,Z.cl,Z.n5,o_ ..,q⟩
theorem Me.of{m:Str}{R:Addr->Prop}(A:bM C H a y)(h:∀t lo dp dn ds dt lp,(Ds t lo dp dn ds dt lp).lookup m=none)(q:R a.p):∃p dx fs,V.ref a.p=.ref p/\H p=some (.ins C dx fs)/\fs.lookup m=none/\R p:=by
 obtain⟨dx,e⟩:=A.ob;exact⟨_,_,_,rfl,e,h ..,q⟩
end
structure Hs(s:gD):Prop where
 r:0<=s.r
 c:s.cs.length=5
 cn:∀y∈s.cs,0<=y
 u:s.us.length=3
 ul:∀y∈s.us,y.length=3
theorem Hs.is{s:gD}(h:Hs s):Ht s:=⟨h.c,h.u,h.ul⟩
def hnd(s:gD):Int:=s.r+s.cs.sum
theorem Dm{s:gD}(h:Hs s):0<=hnd s:=by
 have:=tM _ h.cn;have:=h.r;unfold hnd; omega
def hands(ss:List gD):Int:=(ss.map hnd).sum
structure dX(y:Yd):Prop where
 nn:y.ns.Nodup
 n1:1<=y.ns.length
 n5:y.ns.length<=5
 lp:y.ps.length=y.ns.length
 lo:y.os.length=y.ns.length
 ls:y.ss.length=y.ns.length
 lt:y.ts.length=y.ns.length
 ng:∀n∈y.ns,∃cs,n=tx cs/\SJ cs
 pg:∀x∈y.ps,Ei x
 og:∀(i:Nat) s,y.os[i]?=some (some s)->s∈y.ns.drop (i+1)
 sg:∀s∈y.ss,Hs s
 tg:∀t∈y.ts,t.length=3
 hs:hands y.ss<=y.tot
 lm:(y.ps.map eO.lo).sum<=y.tot
 pn:y.pa.length<=500
 pl:∀r∈y.pa,r.length<=5
end
local macro_rules | `(tactic| ext)=>`(tactic| simp only[_L.start,gH,vd,fU,mX,Nat.reduceAdd,Nat.reduceSub,List.replicate,Fy,vg,qF,
 lF,yQ,Ex,wK,uE,qu,dh,uH,jE,lJ,jc,lN,if_true,if_false,tY,Fv,xM,lM,lL,jW,qz,qD,nU,lO,lQ,jd,lK,qC,xr,tC,Ia,VG,IK,rI,rU,q_,Ff,VL,Ez,uJ,H_,wL,Pu,iU,Ov,iz,qt,tB,nj,VJ,jy,uA,GX,Ey,EY,HY,uG,uy,Tt,Mz,Fe,uD,uI,U6,uF,E_,Ze,Zb,Zc,Zd,Mx,tK,qp,Y4,z9,Y9,Mh,zY,Mm,YZ,Mi,Ml,Mg,zZ,Mj,Ai,Aj,Fd,Fq,mz,sZ,rm,xm,iT,Ie,O9])
section
variable{P:AC}{w:World}{K:Frag}{mg:Str->Option AA}{base:Heap}{f:Addr}{fd:FuncData}{k:Nat}
abbrev T3:=Str×eO×Option Str
def Hx(t:T3):PyData:=.tuple [.str t.1,gM t.2.1,Up t.2.2]
theorem W3(t:T3):uR (Hx t)=true:=by
 unfold Hx;simp[uR,bD,rM,QQ]
theorem oY(ts:List T3):bD (ts.map Hx)=true:=bj.mpr fun d hd=>by obtain⟨x,_,rfl⟩:=dZ.mp hd; exact W3 x
theorem Fg{H:Hp}{t:T3}{v:V}(h:At H (Hx t) v):∃a vp,v=.ref a/\H a=some (.tup [.str t.1,vp,qX t.2.2])/\At H (gM t.2.1) vp:=by
 obtain⟨a,xs,rfl,h1,h2⟩:=aY h;obtain⟨x0,_,rfl,b0,h2⟩:=aa.aJ h2;obtain⟨x1,_,rfl,b1,h2⟩:=aa.aJ h2;obtain⟨x2,_,rfl,b2,h2⟩:=aa.aJ h2;cases aa.fH h2;have e0:x0=.str t.1:=by unfold At at b0; exact b0
 have e2:=V7 b2;subst e0 e2;exact⟨a,x1,rfl,h1,b1⟩
structure R6(H:Hp)(ts:List T3)(ys lD:List V):Prop where
 ly:ys.length=ts.length
 lv:lD.length=ts.length
 at_:∀(i:Nat)(t:T3),ts[i]?=some t->∃a vp,ys[i]?=some (.ref a)/\lD[i]?=some vp/\H a=some (.tup [.str t.1,vp,qX t.2.2])
 ap:aa H ((ts.map (·.2.1)).map gM) lD
theorem R6.mono{H H':Hp}{ts:List T3}{ys lD:List V}(h:R6 H ts ys lD)(m:fJ H H'):R6 H' ts ys lD:=
 ⟨h.ly,h.lv,fun i t e=>by obtain⟨a,vp,h1,h2,h3⟩:=h.at_ i t e; exact⟨a,vp,h1,h2,m _ _ h3⟩,aa.kp m _ _ (fY _) h.ap⟩
theorem wN{H:Hp}:∀{ts:List T3}{ys:List V},aa H (ts.map Hx) ys->∃lD,R6 H ts ys lD
 | [],ys,h=>by
  cases aa.fH h;exact⟨[],rfl,rfl,fun i t e=>by simp at e,aa.nil⟩
 | t::ts,ys,h=>by
  obtain⟨x,r,rfl,h1,h2⟩:=aa.aJ h;obtain⟨a,vp,rfl,e,ap⟩:=Fg h1;obtain⟨lD,g1,g2,g3,g4⟩:=wN h2;refine⟨vp::lD,by simp[g1],by simp[g2],fun i u q=>?_,aa.cons ap g4⟩
  cases i with
  | zero=>cases q; exact⟨a,vp,rfl,rfl,e⟩
  | succ i=>exact g3 i u q
def sY(ts:List T3)(lD:List V)(i:Nat):St:=match ts[i]? with
 | some t=>[some (.str t.1),some (lD.getD i .non),some (qX t.2.2)]
 | none=>[none,none,none]
theorem iR(ts:List T3)(lD:List V)(i:Nat):(sY ts lD i).length=3:=by
 unfold sY;cases ts[i]? <;> rfl
theorem xU{K:Frag}{H:Hp}{ts:List T3}{ys lD:List V}(h:R6 H ts ys lD){i:Nat}{x:V}(hx:ys[i]?=some x){cap:St}{R:St->Hp->Prop}(q:R (sY ts lD i++cap) H):Rn K 3 (mR (dh 0) (mR (dh 1) (mR (dh 2) GZ))) x (List.replicate 3 none++cap) H R:=by
 have hi:i<ts.length:=by rw[<- h.ly]; exact(jF.mp hx).1
 have et:ts[i]?=some ts[i]:=cT hi;obtain⟨a,vp,h1,h2,h3⟩:=h.at_ i _ et;rw[hx] at h1;cases h1;refine⟨a,_,rfl,fK.of h3,rfl,?_⟩;unfold sY at q;rw[et] at q;dsimp only at q;rw[ig,h2] at q;exact q
theorem iG{ts:List T3}{lD:List V}{i:Nat}{t:T3}(e:ts[i]?=some t):sY ts lD i=[some (.str t.1),some (lD.getD i .non),some (qX t.2.2)]:=by
 unfold sY; rw[e]
theorem j_{H:Hp}:∀{ns:List Str}{ys:List V},aa H (ns.map .str) ys->ys=ns.map V.str
 | [],_,h=>aa.fH h
 | n::ns,ys,h=>by
  obtain⟨x,r,rfl,h1,h2⟩:=aa.aJ h;have e:x=.str n:=by unfold At at h1; exact h1
  rw[e,j_ h2]; rfl
theorem rA(ns:List Str):bD (ns.map PyData.str)=true:=bj.mpr fun d hd=>by obtain⟨z,_,rfl⟩:=dZ.mp hd; rfl
structure ZL(K:Frag)(mg:Str->Option AA)(bL:Addr):Prop where
 Ly:mg "BadYard" = some (.ref bL)
 ye:excIn K bL WW "ValueError.__new__" = true
 Yp:exmOne K (.ref bL) (.ref bL)=some true
variable{bL:Addr}
def Ca(CB:Addr):Sp:=fun vs H Q E=>∃(t:Int)(p:Addr)(ys:List V)(xs:List eO),vs=[.int t,.ref p]/\H p=some (.lst ys)/\aa H (xs.map gM) ys/\xs.length<=100/\((xs.map eO.lo).sum<=t->∀H',aK H H'->Q .non H')/\(t<(xs.map eO.lo).sum->∀H',aK H H'->E (.ref CB) none H')
theorem nF:aV AO AO (aD jR):=(by walk_at "c")
theorem xZ(F:jL K "check_least" "check_least" jR f fd)(B:Bi mg)(Z:ZL K mg bL):bF P w K mg base (wy P w) (k+1) f fd AO (Ca bL):=by
 refine F.okE nF (hbody:=fun cdv A outer s H vs Q E Ri hr h=>?_)
 refine uO h fun t p ys xs lC hp ha hl Ef=>?_; clear h; subst lC; obtain⟨q,qE⟩:=Ef;have ND:=nF.nd;refine⟨_,(aF (cN (bf Gv (pb (dH rfl) B.sum j6 (ak (cX (N':=["post"]) (js:=[]) rfl (cP (pv 1)) sX.Ux rfl ⋯ rfl (fun fp s' H'=>(aU aP (aU aP (pv 0) ao (fun _ _=>rfl)) ao (fun _ _=>rfl)))) aj)) (pv 0) (bc _)) (aF (Gp ⟨Z.Ly,Z.ye⟩ Ri (ak fZ aj))) bI)),?_⟩
 ext;have hlen:=ha.length;rw[bN] at hlen;refine iK ((xs.map eO.lo).map .int) (fun R hR=>by ext; exact hR) hp (by simp; omega) ∅ (gq _) (fun i x d H' hx hd s' R hR=>?_) fun acc zs H' f' s' e' a'=>?_
 ·rw[cA,cA] at hd;obtain⟨d',hd',ad⟩:=ha.get hx;rw[cA] at hd';cases ex:xs[i]? with
  | none=>rw[ex] at hd; cases hd
  | some x'=>
   rw[ex] at hd hd';cases hd;cases hd';obtain⟨a0,xs0,rfl,h1,h2⟩:=aY (ad.mono s');obtain⟨x0,_,rfl,b0,h2⟩:=aa.aJ h2;obtain⟨x1,_,rfl,b1,h2⟩:=aa.aJ h2;obtain⟨x2,_,rfl,b2,h2⟩:=aa.aJ h2;obtain⟨c0,cs0,rfl,g1,g2⟩:=aY b2;have:=cF (cs:=[x'.lo,x'.hi]) g2;subst this;ext;refine Ix.tup h1 (a_ (j:=2) rfl) (Ix.tup g1 (a_ (j:=0) rfl) ?_);exact hR _ _ (aK.refl _) (At.int _)
 ·have:=cF a';subst this;refine⟨acc,_,rfl,.inl e',?_⟩;by_cases hs:t<(xs.map eO.lo).sum
  ·rw[bh (by simpa using hs)]
   exact⟨by show 1<=sizeLine; decide,fun H2 s2=>qE hs _ (s'.trans s2)⟩
  ·rw[aX (by simpa using hs)]
   exact q ∅ H' s'
def Qa(CB:Addr):Sp:=fun vs H Q E=>∃(o:Option Str)(p:Addr)(ns:List Str),vs=[qX o,.ref p]/\H p=some (.lst (ns.map V.str))/\((∀z,o=some z->z∈ns)->∀H',aK H H'->Q .non H')/\(∀z,o=some z->z∉ns->∀H',aK H H'->E (.ref CB) none H')
theorem mG:aV AQ AQ (aD i_):=(by walk_at "c")
theorem vG(F:jL K "check_onward" "check_onward" i_ f fd)(Z:ZL K mg bL):bF P w K mg base (wy P w) (k+1) f fd AQ (Qa bL):=by
 refine F.okE mG (hbody:=fun cdv A outer s H vs Q E Ri hr h=>?_)
 obtain⟨o,p,ns,rfl,hp,q,qE⟩:=h;have ND:=mG.nd;refine⟨_,(aF (cN (PW.pt (Cw (bf vW (pv 0) ou (bc _)) (vV (bf (M9 (K:=K) rfl) (pv 0) (pv 1) (by with_unfolding_all rfl))))) (aF (Gp ⟨Z.Ly,Z.ye⟩ Ri (ak fZ aj))) bI)),?_⟩
 ext;cases o with
 | none=>exact⟨trivial,by rw[aX (by simp[qX])]; exact q (fun z e=>by cases e) H (aK.refl H)⟩
 | some z=>
  refine⟨trivial,?_⟩;rw[bh (by simp[qX])]
  refine⟨p,_,rfl,.inl (bT.of hp),rfl,Bj ns,_,rfl,?_⟩;by_cases hz:z∈ns
  ·rw[bh rfl,show qX (some z)=.str z from rfl,Dl,rH hz,aX ⋯]
   exact q (fun z' e=>by cases e; exact hz) H (aK.refl H)
  ·rw[bh rfl,show qX (some z)=.str z from rfl,Dl,mY hz,bh ⋯]
   exact⟨by show 1<=sizeLine; decide,fun H2 s2=>qE z rfl hz _ s2⟩
def PN:Sp:=fun vs H Q _=>∃(t:Int)(p p':Addr)(ys zs:List V)(ss:List gD),vs=[.int t,.ref p,.ref p']/\H p=some (.lst ys)/\H p'=some (.lst zs)/\aa H (ss.map kh) zs/\(∀s∈ss,Hs s)/\ys.length=ss.length/\ss.length<=100/\hands ss<=t/\∀H',aK H H'->Q .non H'
theorem mF:aV AR AR (aD iZ):=(by walk_at "c")
theorem vD(F:jL K "check_stands" "check_stands" iZ f fd)(B:Bi mg)(cW:Ct P w K mg base k "hands_of" ["stand"] vR):bF P w K mg base iy (k+1) f fd AR PN:=by
 refine F.ok mF (hbody:=(0:))
 refine aax h fun t p p' ys zs ss BJ hp hp' ha hS hl h100 ac1=>?_; clear h; subst BJ; obtain⟨hh,q⟩:=ac1;have ND:=mF.nd;refine⟨_,(aq (cN (bf Az (pb (cB (K:=K) rfl) B.len dU (ak (pv 2) aj)) (pb (cB (K:=K) rfl) B.len dU (ak (pv 1) aj)) (bc _)) (aF Gq) bI) (aF (cN (bf Gv (pb (dH rfl) B.sum j6 (ak (cX (N':=["stand"]) (js:=[]) rfl (cP (pv 2)) sX.Ux rfl ⋯ rfl (fun fp s' H'=>(pf cW hr (ak (pv 0) aj)))) aj)) (pv 0) (bc _)) (aF Gq) bI))),?_⟩
 have hlen:=ha.length;rw[bN] at hlen;ext;refine(jM p' _ ⟨rfl,.inl (bT.of hp'),jM p _ ⟨rfl,.inl (bT.of hp),?_⟩⟩);ext;rw[aX (by simp; omega)]
 refine iK ((ss.map hnd).map .int) (fun R hR=>by ext; exact hR) hp' (by simp; omega) ∅ (gq _) (fun i x d H' hx hd s' R hR=>?_) fun acc us H' f' s' e' a'=>?_
 ·rw[cA,cA] at hd;obtain⟨d',hd',ad⟩:=ha.get hx;rw[cA] at hd';cases ex:ss[i]? with
  | none=>rw[ex] at hd; cases hd
  | some x'=>
   rw[ex] at hd hd';cases hd;cases hd';obtain⟨a0,xs0,rfl,h1,h2⟩:=aY (ad.mono s');obtain⟨x0,_,rfl,b0,h2⟩:=aa.aJ h2;obtain⟨x1,_,rfl,b1,h2⟩:=aa.aJ h2;obtain⟨x2,_,rfl,b2,h2⟩:=aa.aJ h2;obtain⟨c0,cs0,rfl,g1,g2⟩:=aY b2;have:=cF (cs:=x'.cs) g2;subst this;have e1:x1=.int x'.r:=by unfold At at b1; exact b1
   subst e1;ext;exact⟨_,_,_,_,_,_,_,rfl,rfl,h1,g1,hR _ _ (aK.refl _) (At.int _)⟩
 ·have:=cF a';subst this;refine⟨acc,_,rfl,.inl e',?_⟩;rw[aX (by unfold hands at hh; simpa using hh)]
  exact q H' s'
structure JV(t:Int)(ts:List T3):Prop where
 n1:1<=ts.length
 n5:ts.length<=5
 nn:(ts.map (·.1)).Nodup
 ng:∀x∈ts,∃cs,x.1=tx cs/\SJ cs
 og:∀(i:Nat)(x:T3) z,ts[i]?=some x->x.2.2=some z->z∈(ts.map (·.1)).drop (i+1)
 lm:((ts.map (·.2.1)).map eO.lo).sum<=t
def VV:Sp:=fun vs H Q _=>∃(t:Int)(p:Addr)(ys:List V)(ts:List T3),vs=[.int t,.ref p]/\H p=some (.lst ys)/\aa H (ts.map Hx) ys/\JV t ts/\∀H',aK H H'->Q .non H'
theorem nD:aV ["total","posts","names","place","name","post","onward"] AO (aD jQ):=(by walk_at "c")
theorem xY(F:jL K "check_posts" "check_posts" jQ f fd)(B:Bi mg)(O:Co K mg)(uq:Ct P w K mg base k "is_name" ["thing"] Il)(jq:WK P w K mg base k "check_onward" AQ (Qa bL))(j4:WK P w K mg base k "check_least" AO (Ca bL)):bF P w K mg base iy (k+1) f fd AO VV:=by
 refine F.ok nD (hbody:=(0:))
 refine uO h fun t p ys ts lC hp ha T q=>?_; clear h; subst lC;have ND:=nD.nd;refine⟨_,(aq (cN (n_ (Gn xV xV ao (pb (cB (K:=K) rfl) B.len dU (ak (pv 1) aj)) (CQ O.JX))) (aF Gq) bI) (aq (xQ (i:=2) ND rfl (by walk_at "o") (nt:=3) (N':=["name","post","onward"]) (js:=[]) rfl (cP (pv 1)) sW.of (fun fp s' H'=>(bR (K:=K) (n:=3) rfl rfl (aB (aCN AS 0) (aB (aCN AS 1) (aB (aCN AS 2) bC))))) (fun fp s' H'=>gW) (fun fp s' H'=>(pv 0))) (aq (cN (PW.pt (rK (bf uQ (pb Bq B.len dU (ak (pt (Bp rfl) B.set RT (ak (pv 2) aj)) aj)) (pb (cB (K:=K) rfl) B.len dU (ak (pv 2) aj)) (bc _)) (lU (n_ (gK (pb (uo rfl) B.all JR (ak (cX (N':=["name"]) (js:=[]) rfl (cP (pv 2)) sX.Ux rfl ⋯ rfl (fun fp s' H'=>(pf uq hr (ak (pv 0) aj)))) aj))))))) (aF Gq) bI) (aq (gO PassesOwn.never rfl (CN (K:=K) rfl B.enumerate (ak (pv 1) aj)) (ud rfl (aB (aC (i:=3)) (aB (ud rfl (aB (aC (i:=4)) (aB (aC (i:=5)) (aB (aC (i:=6)) bC)))) bC))) (aF (dq (pf jq.calm hr (ak (pv 6) (ak (cY Ce (pv 2) (eQ (aL bu (pv 3) ao)) eU) aj)))))) (aF (dq (pf j4.calm hr (ak (pv 0) (ak (kY (nt:=3) (N':=["name","post","onward"]) (js:=[]) rfl (cP (pv 1)) sW.of (fun fp s' H'=>(bR (K:=K) (n:=3) rfl rfl (aB (aCN AS 0) (aB (aCN AS 1) (aB (aCN AS 2) bC))))) (fun fp s' H'=>gW) (fun fp s' H'=>(pv 1))) aj))))))))),?_⟩
 have hlen:=ha.length;rw[bN] at hlen;have T1:=T.n1;have T5:=T.n5;simp only[Kg 15];ext;refine(jM p ys ⟨rfl,.inl (bT.of hp),(jM _ _ ⟨rfl,rfl,?_⟩)⟩);rw[bh (by simp; omega)]
 refine(jM _ _ ⟨rfl,rfl,?_⟩);rw[aX (by simp; omega)]
 obtain⟨lD,TA⟩:=wN ha;refine pF ((ts.map (·.1)).map .str) (sY ts lD) (iR ts lD) (fun R hR=>by ext; exact hR) hp (by simp; omega) ∅ (rA _) ?_ ?_
 ·intro i x d H' hx hd s';refine⟨fun R hR=>xU (TA.mono s'.kp) hx hR,fun R hR=>?_⟩;have hi:i<ts.length:=by rw[<- hlen]; exact(jF.mp hx).1
  have et:ts[i]?=some ts[i]:=cT hi;rw[cA,cA,et] at hd;cases hd;rw[iG et];ext;exact hR _ _ (aK.refl _) (At.str _)
 ·intro acc us H1 f1 s1 e1 a1;have:=j_ a1;subst this;refine(jM acc (ts.map (·.1)) ⟨rfl,e1,by rw[bN]; omega,fun pz H2 f2 s2 e2=>(jM pz _ ⟨rfl,e2,?_,jM acc _ ⟨rfl,.inl (bT.of (s2 _ _ e1)),?_⟩⟩)⟩)
  ·have:=(ph (ts.map (·.1))).1;rw[bN] at this; omega
  have hdc:=ph (ts.map (·.1));refine⟨_,_,rfl,rfl,?_⟩
  rw[aX (by
   intro z;have z':=Cr z;rw[bN] at z'
   exact hdc.2.mp ∅ T.nn)]
  have Wl:=s2 _ _ e1;have s12:=s1.trans s2;refine iK ((ts.map fun _=>true).map .bool) (fun R hR=>by ext; exact hR) Wl (by simp) (by simp; omega) (bj.mpr fun d hd=>by obtain⟨z,_,rfl⟩:=dZ.mp hd; rfl) (fun i x d H' hx hd s' R hR=>?_) fun ab ub H3 f3 s3 e3 a3=>?_
  ·rw[cA,cA] at hx hd;cases et:ts[i]? with
   | none=>rw[et] at hx; cases hx
   | some t=>
    rw[et] at hx hd;cases hx;cases hd;obtain⟨cs,ec,hg⟩:=T.ng t (dC et);ext;rw[ec];exact Name.of hg fun dF s''=>hR _ _ s'' (At.bool _)
  ·have eb:ub=(ts.map fun _=>true).map V.bl:=by
    have gen:∀(bs:List Bool)(us:List V),aa H3 (bs.map .bool) us->us=bs.map V.bl:=by
     intro bs
     induction bs with
     | nil=>intro us h; exact aa.fH h
     | cons b bs ih=>
      intro us h;obtain⟨x,r,rfl,h1,h2⟩:=aa.aJ h;have e:x=.bl b:=by unfold At at h1; exact h1
      rw[e,ih r h2]; rfl
    exact gen _ _ a3
   subst eb;refine⟨ab,_,rfl,e3,?_⟩;rw[aX (by simp)]
   have Cj:=s12.trans s3;have Ys:=s3 _ _ Wl;rw[tu];ext;refine EK.of (Cj _ _ hp) (fun i σ H'=>∃o3 o4 o5 o6,σ=[some (.int t),some (.ref p),some (.ref acc),o3,o4,o5,o6]/\aK H3 H') ⟨_,_,_,_,rfl,aK.refl _⟩ (fun i σ H' _ ⟨_,_,_,_,_,z⟩=>z _ _ (Cj _ _ hp)) ?_ ?_
   ·rintro i x σ H4 p4 hx ⟨o3,o4,o5,o6,rfl,s4⟩ f4;have hi:i<ts.length:=by rw[<- hlen]; exact(jF.mp hx).1
    have et:ts[i]?=some ts[i]:=cT hi;have V1:=Cj.trans s4;refine bG ((TA.mono V1.kp).at_ i _ et) fun a0 vp g1 g2 g3=>?_;rw[hx] at g1;cases g1;have s5:=aO f4 (HO.tup [V.int (i:Nat),.ref a0]);have e5:upd H4 p4 (HO.tup [V.int (i:Nat),.ref a0]) p4=some (.tup [V.int (i:Nat),.ref a0]):=aA;generalize upd H4 p4 (HO.tup [V.int (i:Nat),.ref a0])=H5 at s5 e5 ⊢;refine⟨p4,_,rfl,fK.of e5,rfl,?_⟩;ext;refine⟨a0,_,rfl,fK.of (s5 _ _ g3),rfl,?_⟩;ext;have eA:=s5 _ _ (s4 _ _ Ys);refine⟨acc,_,rfl,bT.of eA,fun q6 f6=>?_⟩;rw[su ∅,show((i:Int)+1).toNat=i+1 by omega,<- List.map_drop]
    have s6:=aO f6 (HO.lst (((ts.map (·.1)).drop (i+1)).map V.str));refine(show Qa bL _ _ _ E0 from⟨_,q6,_,rfl,aA,fun _ H7 s7=>⟨_,_,_,_,rfl,s4.trans (s5.trans (s6.trans s7))⟩,fun z hz hn=>absurd (T.og i _ z et hz) hn⟩)
   ·rintro σ H4 ⟨o3,o4,o5,o6,rfl,s4⟩;ext;have V1:=Cj.trans s4;refine pF ((ts.map (·.2.1)).map gM) (sY ts lD) (iR ts lD) (fun R hR=>by ext; exact hR) (V1 _ _ hp) (by simp; omega) ∅ (fY _) ?_ ?_
    ·intro i x d H' hx hd s';have TB:=TA.mono (V1.trans s').kp;refine⟨fun R hR=>xU TB hx hR,fun R hR=>?_⟩;have hi:i<ts.length:=by rw[<- hlen]; exact(jF.mp hx).1
     have et:ts[i]?=some ts[i]:=cT hi;obtain⟨vp,ev,av⟩:=TB.ap.nth hd;rw[iG et];ext;rw[ig,ev];exact hR _ _ (aK.refl _) av
    ·intro ac2 us2 H5 f5 s5 e5 a5;exact(show Ca bL _ _ _ E0 from⟨t,ac2,us2,ts.map (·.2.1),rfl,e5,a5,by simp; omega,fun _ H6 s6=>q H6 (V1.trans (s5.trans s6)),fun z=>absurd T.lm ∅⟩)
end
local macro_rules | `(tactic| ext)=>`(tactic| simp only[_L.start,gH,vd,fU,mX,Nat.reduceAdd,Nat.reduceSub,List.replicate,Fy,vg,qF,
 lF,yQ,Ex,wK,uE,qu,dh,uH,jE,lJ,jc,lN,if_true,if_false,tY,Fv,xM,lM,lL,jW,qz,qD,nU,lO,lQ,jd,lK,qC,xr,tC,Ia,VG,IK,rI,rU,q_,Ff,VL,Ez,uJ,H_,wL,Pu,iU,Ov,iz,qt,tB,nj,VJ,jy,uA,GX,Ey,EY,HY,uG,uy,Tt,Mz,Fe,uD,uI,U6,uF,E_,Ze,Zb,Zc,Zd,Mx,tK,qp,Y4,z9,Y9,Mh,zY,Mm,YZ,Mi,Ml,Mg,zZ,Mj,Ai,Aj,Fd,Fq,mz,sZ,rm,xm,iT])
section
variable{P:AC}{w:World}{K:Frag}{mg:Str->Option AA}{base:Heap}{f:Addr}{fd:FuncData}{k:Nat}
def Ve(t:Int):List (Str×V):=[("total",.int t)]
theorem pf1(t:Int):jf "total" (.int t) []=Ve t:=by kernel_rfl
def Ru(t:Int)(lo:Addr):List (Str×V):=[("total",.int t),("order",.ref lo)]
theorem pf2(t:Int)(lo:Addr):jf "order" (.ref lo) (Ve t)=Ru t lo:=by kernel_rfl
def Oz(t:Int)(lo dp:Addr):List (Str×V):=[("total",.int t),("order",.ref lo),("posts",.ref dp)]
theorem pf3(t:Int)(lo dp:Addr):jf "posts" (.ref dp) (Ru t lo)=Oz t lo dp:=by kernel_rfl
def Ox(t:Int)(lo dp dn:Addr):List (Str×V):=[("total",.int t),("order",.ref lo),("posts",.ref dp),("onwards",.ref dn)]
theorem pf4(t:Int)(lo dp dn:Addr):jf "onwards" (.ref dn) (Oz t lo dp)=Ox t lo dp dn:=by kernel_rfl
def Ow(t:Int)(lo dp dn ds:Addr):List (Str×V):=[("total",.int t),("order",.ref lo),("posts",.ref dp),("onwards",.ref dn),("stands",.ref ds)]
theorem pf5(t:Int)(lo dp dn ds:Addr):jf "stands" (.ref ds) (Ox t lo dp dn)=Ow t lo dp dn ds:=by kernel_rfl
def Sv(t:Int)(lo dp dn ds dt:Addr):List (Str×V):=[("total",.int t),("order",.ref lo),("posts",.ref dp),("onwards",.ref dn),("stands",.ref ds),("tallies",.ref dt)]
theorem pf6(t:Int)(lo dp dn ds dt:Addr):jf "tallies" (.ref dt) (Ow t lo dp dn ds)=Sv t lo dp dn ds dt:=by kernel_rfl
def fl7(t:Int)(lo dp dn ds dt lp:Addr):List (Str×V):=[("total",.int t),("order",.ref lo),("posts",.ref dp),("onwards",.ref dn),("stands",.ref ds),("tallies",.ref dt),("past",.ref lp)]
theorem pf7(t:Int)(lo dp dn ds dt lp:Addr):jf "past" (.ref lp) (Sv t lo dp dn ds dt)=fl7 t lo dp dn ds dt lp:=by kernel_rfl
theorem N7(t:Int)(lo dp dn:Addr):(Ox t lo dp dn).lookup ("order" : Str)=some (.ref lo):=by kernel_rfl
theorem N6(t:Int)(lo dp dn ds:Addr):(Ow t lo dp dn ds).lookup ("order" : Str)=some (.ref lo):=by kernel_rfl
def eF(x:eO):gD:=⟨0,x.lo,[0,0,0,0,0],0,0,[[0,0,0],[0,0,0],[0,0,0]]⟩
def qJ(t:Int)(ts:List T3)(ss:List gD):Yd:=⟨t,ts.map (·.1),ts.map (·.2.1),ts.map (·.2.2),ss,ts.map fun _=>[0,0,0],[]⟩
def Ii(C:Addr):Sp:=fun vs H Q _=>∃(y dx:Addr)(t:Int)(p:Addr)(ys:List V)(ts:List T3)(sv:V)(ss:List gD),vs=[.ref y,.int t,.ref p,sv]/\H y=some (.ins C dx [])/\H p=some (.lst ys)/\aa H (ts.map Hx) ys/\JV t ts/\(∀x∈ts,Ei x.2.1)/\((sv=.non/\ss=ts.map fun x=>eF x.2.1)\/∃l zs,sv=.ref l/\H l=some (.lst zs)/\aa H (ss.map kh) zs)/\ss.length=ts.length/\(∀z∈ss,Hs z)/\hands ss<=t /\
 ∀a H',a.p=y->bM C H' a (qJ t ts ss)->a.qW=[]->(∀b∈a.own,b=y\/H b=none)->Fr [y] H H'->Q .non H'
theorem jB:aV AT AT (aD gG):=(by walk_at "c")
theorem rP{C T:Addr}(F:J1 K "__init__" "Yard.__init__" gG f fd T)(B:Bi mg)(Z:ZY K C)(j0:Ct P w K mg base k "check_posts" AO VV)(jZ:Ct P w K mg base k "first_stand" ["post"] Kf)(jo:Ct P w K mg base k "check_stands" AR PN):bF P w K mg base (wy P w) (k+1) f fd AT (Ii C):=by
 refine F.okE jB (hbody:=fun cdv A outer s H vs Q E Ri hr h=>?_)
 refine aaw h fun y dx t p ys ts sv ss Ef hy hp ha T3 hps hsv hls hS acZ=>?_; clear h; subst Ef; obtain⟨hh,q⟩:=acZ;have ND:=jB.nd;refine⟨_,(aq (dq (pf j0 hr (ak (pv 1) (ak (pv 2) aj)))) (aq (cN (bf Xz (pv 3) ou (bc _)) (aF (xQ (i:=3) ND rfl (by walk_at "o") (nt:=3) (N':=["name","post","onward"]) (js:=[]) rfl (cP (pv 2)) sW.of (fun fp s' H'=>(bR (K:=K) (n:=3) rfl rfl (aB (aCN AS 0) (aB (aCN AS 1) (aB (aCN AS 2) bC))))) (fun fp s' H'=>gW) (fun fp s' H'=>(pf jZ hr (ak (pv 1) aj))))) bI) (aq (dq (pf jo hr (ak (pv 1) (ak (pv 2) (ak (pv 3) aj))))) (aq (lV (K:=K) rfl (pv 0) (pv 1)) (aq (lV (K:=K) rfl (pv 0) (kY (nt:=3) (N':=["name","post","onward"]) (js:=[]) rfl (cP (pv 2)) sW.of (fun fp s' H'=>(bR (K:=K) (n:=3) rfl rfl (aB (aCN AS 0) (aB (aCN AS 1) (aB (aCN AS 2) bC))))) (fun fp s' H'=>gW) (fun fp s' H'=>(pv 0)))) (aq (lV (K:=K) rfl (pv 0) (xT (nt:=3) (N':=["name","post","onward"]) (js:=[]) rfl (cP (pv 2)) qU.of (fun fp s' H'=>(bR (K:=K) (n:=3) rfl rfl (aB (aCN AS 0) (aB (aCN AS 1) (aB (aCN AS 2) bC))))) (fun fp s' H'=>(pv 0)) (fun fp s' H'=>(pv 1)))) (aq (lV (K:=K) rfl (pv 0) (xT (nt:=3) (N':=["name","post","onward"]) (js:=[]) rfl (cP (pv 2)) qU.of (fun fp s' H'=>(bR (K:=K) (n:=3) rfl rfl (aB (aCN AS 0) (aB (aCN AS 1) (aB (aCN AS 2) bC))))) (fun fp s' H'=>(pv 0)) (fun fp s' H'=>(pv 2)))) (aq (lV (K:=K) rfl (pv 0) (Jc rfl B.dict B.zip (ak (cM (K:=K) rfl (pv 0)) (ak (pv 3) aj)))) (aq (lV (K:=K) rfl (pv 0) (xT (nt:=1) (N':=["name"]) (js:=[]) rfl (cP (cM (K:=K) rfl (pv 0))) qU.of (fun fp s' H'=>(aCN ["name"] 0)) (fun fp s' H'=>(pv 0)) (fun fp s' H'=>(bA (ak ao (ak ao (ak ao aj))))))) (aF (lV (K:=K) rfl (pv 0) (cG aj)))))))))))),?_⟩
 have hlen:=ha.length;rw[bN] at hlen;have T1:=T3.n1;have T5:=T3.n5;obtain⟨lD,TA⟩:=wN ha;simp only[Qi];ext;refine(uw t p ys ts ⟨rfl,hp,ha,T3,fun H1 s1=>?_⟩);refine uz.of (R:=fun σ H'=>∃l zs,σ=[some (.ref y),some (.int t),some (.ref p),some (.ref l)]/\H' l=some (.lst zs)/\aa H' (ss.map kh) zs/\aK H H') ?_ ?_
 ·intro σ H2 wz; refine Gm wz fun l zs cL e2 a2 s2=>?_; clear wz; subst cL;ext;have lz:=a2.length;rw[bN] at lz;refine(xi6 t p l ys zs ss ⟨rfl,s2 _ _ hp,e2,a2,hS,∅,∅,hh,fun H3 s3=>?_⟩)
  have s23:=s2.trans s3;refine(uw y C dx ([]) ⟨rfl,s23 _ _ hy,Z.cl,Z.n1,⋯,?_⟩)
  have py:p≠y:=fun z=>by rw[z,hy] at hp; cases hp
  have ly:l≠y:=fun z=>by rw[z,s2 _ _ hy] at e2; cases e2
  have stp:∀{G:Hp}{fs fs':List (Str×V)},G y=some (.ins C dx fs)->Fr [y] H G->Fr [y] H (upd G y (.ins C dx fs'))/\fJ G (upd G y (.ins C dx fs')):=fun {G fs fs'} g fr=>⟨fr.trans (Fr.put (by simp)),fJ.put fun xs z=>by rw[g] at z; cases z⟩
  have gy3:H3 y=some (.ins C dx []):=s23 _ _ hy;have r3:Fr [y] H H3:=s23.fr _;obtain⟨r3',k3⟩:=stp (fs':=Ve t) gy3 r3;have TA3:=TA.mono (s23.kp.trans k3);have z3':=aa.kp k3 _ _ (dY _) (a2.mono s3);have hp3:upd H3 y (.ins C dx (Ve t)) p=some (.lst ys):=by rw[aH py]; exact s23 _ _ hp
  have hl3:upd H3 y (.ins C dx (Ve t)) l=some (.lst zs):=by rw[aH ly]; exact s3 _ _ e2
  have Yi:upd H3 y (.ins C dx (Ve t)) y=some (.ins C dx (Ve t)):=aA;rw[pf1];generalize upd H3 y (.ins C dx (Ve t))=K3 at r3' k3 TA3 z3' hp3 hl3 Yi ⊢;refine pF ((ts.map (·.1)).map .str) (sY ts lD) (iR ts lD) (fun R hR=>by ext; exact hR) hp3 (by simp; omega) ∅ (rA _) ?_ ?_
  ·intro i x d H' hx hd s';refine⟨fun R hR=>xU (TA3.mono s'.kp) hx hR,fun R hR=>?_⟩;have hi:i<ts.length:=by rw[<- hlen]; exact(jF.mp hx).1
   have et:ts[i]?=some ts[i]:=cT hi;rw[cA,cA,et] at hd;cases hd;rw[iG et];ext;exact hR _ _ (aK.refl _) (At.str _)
  intro lo us4 H4 flo s4 elo a4;have:=j_ a4;subst this;have gy4:=s4 _ _ Yi;refine(uw y C dx (Ve t) ⟨rfl,gy4,Z.cl,Z.n2,(show 1<1000 by decide),?_⟩)
  have K9:lo≠y:=fun z=>by rw[z,Yi] at flo; cases flo
  obtain⟨r4',k4⟩:=stp (fs':=Ru t lo) gy4 (r3'.trans (s4.fr _));have TA4:=TA3.mono (s4.kp.trans k4);have z4':=aa.kp k4 _ _ (dY _) (z3'.mono s4);have hp4:upd H4 y (.ins C dx (Ru t lo)) p=some (.lst ys):=by rw[aH py]; exact s4 _ _ hp3
  have hl4:upd H4 y (.ins C dx (Ru t lo)) l=some (.lst zs):=by rw[aH ly]; exact s4 _ _ hl3
  have Ye:upd H4 y (.ins C dx (Ru t lo)) lo=some (.lst ((ts.map (·.1)).map V.str)):=by rw[aH K9]; exact elo
  have Vb:upd H4 y (.ins C dx (Ru t lo)) y=some (.ins C dx (Ru t lo)):=aA
  have Zq:∀b,upd H4 y (.ins C dx (Ru t lo)) b=none->H b=none:=fun b z=>by
   cases q':H b with
   | none=>rfl
   | some o=>
    by_cases e:b=y
    ·rw[e,Vb] at z; cases z
    ·rw[r4' b o q' (by simpa using e)] at z; cases z
  have aef:H lo=none:=by
   cases q':H lo with
   | none=>rfl
   | some o=>rw[r3' lo o q' (by simpa using K9)] at flo; cases flo
  rw[pf2];generalize upd H4 y (.ins C dx (Ru t lo))=K4 at r4' k4 TA4 z4' hp4 hl4 Ye Vb Zq ⊢;refine v_ (ts.map (·.1)) ((ts.map (·.2.1)).map gM) (sY ts lD) (iR ts lD) (fun R hR=>by ext; exact hR) hp4 T3.nn (by simp; omega) (by simp; omega) ∅ (fY _) ?_ ?_
  ·intro i x nm d H' hx hn hd s';have TC:=TA4.mono s'.kp;have hi:i<ts.length:=by rw[<- hlen]; exact(jF.mp hx).1
   have et:ts[i]?=some ts[i]:=cT hi;obtain⟨vp,ev,av⟩:=TC.ap.nth hd;rw[cA,et] at hn;cases hn;rw[iG et];refine⟨fun R hR=>xU TC hx (by rw[iG et]; exact hR),fun R hR=>by ext; exact hR,fun R hR=>?_⟩
   ext;rw[ig,ev];exact hR _ _ (aK.refl _) av
  intro dp v5 H5 fdp s5 edp a5 l5;have gy5:=s5 _ _ Vb;refine(uw y C dx (Ru t lo) ⟨rfl,gy5,Z.cl,Z.n3,(show 2<1000 by decide),?_⟩)
  have Vj:dp≠y:=fun z=>by rw[z,Vb] at fdp; cases fdp
  obtain⟨r5',k5⟩:=stp (fs':=Oz t lo dp) gy5 (r4'.trans (s5.fr _));have TA5:=TA4.mono (s5.kp.trans k5);have z5':=aa.kp k5 _ _ (dY _) (z4'.mono s5);have a5':=aa.kp k5 _ _ (fY _) a5;have hp5:upd H5 y (.ins C dx (Oz t lo dp)) p=some (.lst ys):=by rw[aH py]; exact s5 _ _ hp4
  have hl5:upd H5 y (.ins C dx (Oz t lo dp)) l=some (.lst zs):=by rw[aH ly]; exact s5 _ _ hl4
  have Jx:upd H5 y (.ins C dx (Oz t lo dp)) lo=some (.lst ((ts.map (·.1)).map V.str)):=by rw[aH K9]; exact s5 _ _ Ye
  have Q_:upd H5 y (.ins C dx (Oz t lo dp)) dp=some (.dK (zK (ts.map (·.1)) v5)):=by rw[aH Vj]; exact edp
  have Va:upd H5 y (.ins C dx (Oz t lo dp)) y=some (.ins C dx (Oz t lo dp)):=aA
  have fH5:∀b,upd H5 y (.ins C dx (Oz t lo dp)) b=none->K4 b=none:=fun b z=>by
   cases q':K4 b with
   | none=>rfl
   | some o=>
    by_cases e:b=y
    ·rw[e,Va] at z; cases z
    ·rw[aH e,s5 _ _ q'] at z; cases z
  rw[pf3];generalize upd H5 y (.ins C dx (Oz t lo dp))=K5 at r5' k5 TA5 z5' a5' hp5 hl5 Jx Q_ Va fH5 ⊢;refine v_ (ts.map (·.1)) ((ts.map (·.2.2)).map Up) (sY ts lD) (iR ts lD) (fun R hR=>by ext; exact hR) hp5 T3.nn (by simp; omega) (by simp; omega) ∅ (Uo _) ?_ ?_
  ·intro i x nm d H' hx hn hd s';have TC:=TA5.mono s'.kp;have hi:i<ts.length:=by rw[<- hlen]; exact(jF.mp hx).1
   have et:ts[i]?=some ts[i]:=cT hi;rw[cA,et] at hn;cases hn;rw[cA,cA,et] at hd;cases hd;rw[iG et];refine⟨fun R hR=>xU TC hx (by rw[iG et]; exact hR),fun R hR=>by ext; exact hR,fun R hR=>?_⟩
   ext;exact hR _ _ (aK.refl _) (V8 _)
  intro dn v6 H6 fdn s6 edn a6 l6;have:=QM a6;subst this;have gy6:=s6 _ _ Va;refine(uw y C dx (Oz t lo dp) ⟨rfl,gy6,Z.cl,Z.n4,(show 3<1000 by decide),?_⟩)
  have Zu:dn≠y:=fun z=>by rw[z,Va] at fdn; cases fdn
  obtain⟨r6',k6⟩:=stp (fs':=Ox t lo dp dn) gy6 (r5'.trans (s6.fr _));rw[pf4];have ho6:∀b o,b≠y->K5 b=some o->upd H6 y (.ins C dx (Ox t lo dp dn)) b=some o:=fun b o e z=>by rw[aH e]; exact s6 _ _ z
  have z6':=aa.kp k6 _ _ (dY _) (z5'.mono s6);have a56:=aa.kp k6 _ _ (fY _) (a5'.mono s6);have U8:upd H6 y (.ins C dx (Ox t lo dp dn)) dn=some (.dK (zK (ts.map (·.1)) ((ts.map (·.2.2)).map qX))):=by rw[aH Zu]; exact edn
  have NZ:upd H6 y (.ins C dx (Ox t lo dp dn)) y=some (.ins C dx (Ox t lo dp dn)):=aA
  have fH6:∀b,upd H6 y (.ins C dx (Ox t lo dp dn)) b=none->K5 b=none:=fun b z=>by
   cases q':K5 b with
   | none=>rfl
   | some o=>
    by_cases e:b=y
    ·rw[e,NZ] at z; cases z
    ·rw[ho6 _ _ e q'] at z; cases z
  generalize upd H6 y (.ins C dx (Ox t lo dp dn))=K6 at r6' k6 z6' a56 U8 NZ fH6 ho6 ⊢;refine(BW y C dx (Ox t lo dp dn) (.ref lo) ⟨rfl,NZ,Z.cl,Z.n2,N7 ..,uw lo l ((ts.map (·.1)).map Sum.inr) zs ⟨rfl,by rw[xH]; exact ho6 _ _ K9 Jx,ho6 _ _ ly hl5,by simp; omega,by simp; omega,fun ds H7 fds s7 eds=>?_⟩⟩)
  have aev:H7 ds=some (.dK (zK (ts.map (·.1)) zs)):=eds.trans (pI (fun q=>some (HO.dK q)) (Ep (ts.map fun x:_K.T3=>x.1) zs [] [] (by simpa using T3.nn) rfl (by simp; omega)))
  refine(uw y C dx (Ox t lo dp dn) ⟨rfl,s7 _ _ NZ,Z.cl,Z.n5,(show 4<1000 by decide),?_⟩)
  have dsy:ds≠y:=fun z=>by rw[z,NZ] at fds; cases fds
  obtain⟨r7',k7⟩:=stp (fs':=Ow t lo dp dn ds) (s7 _ _ NZ) (r6'.trans (s7.fr _));rw[pf5];have U7:∀b o,b≠y->K6 b=some o->upd H7 y (.ins C dx (Ow t lo dp dn ds)) b=some o:=fun b o e z=>by rw[aH e]; exact s7 _ _ z
  have z7':=aa.kp k7 _ _ (dY _) (z6'.mono s7);have a57:=aa.kp k7 _ _ (fY _) (a56.mono s7);have Yh:upd H7 y (.ins C dx (Ow t lo dp dn ds)) ds=some (.dK (zK (ts.map (·.1)) zs)):=by rw[aH dsy]; exact aev
  have Rj:upd H7 y (.ins C dx (Ow t lo dp dn ds)) y=some (.ins C dx (Ow t lo dp dn ds)):=aA
  have fH7:∀b,upd H7 y (.ins C dx (Ow t lo dp dn ds)) b=none->K6 b=none:=fun b z=>by
   cases q':K6 b with
   | none=>rfl
   | some o=>
    by_cases e:b=y
    ·rw[e,Rj] at z; cases z
    ·rw[U7 _ _ e q'] at z; cases z
  generalize upd H7 y (.ins C dx (Ow t lo dp dn ds))=K7 at r7' k7 z7' a57 Yh Rj fH7 U7 ⊢;refine v_ (ts.map (·.1)) ((ts.map fun _=>([0,0,0]:List Int)).map j9) (fun i=>[some (((ts.map (·.1)).map V.str).getD i .non)]) (fun _=>rfl) (a:=lo) (fun R hR=>by ext; exact⟨y,C,dx,Ow t lo dp dn ds,.ref lo,rfl,Rj,Z.cl,Z.n2,N6 ..,hR⟩) (U7 _ _ K9 (ho6 _ _ K9 Jx)) T3.nn (by simp) (by simp) (by simp; omega) (lE _) ?_ ?_
  ·intro i x nm d H' hx hn hd s';have ex:((ts.map (·.1)).map V.str).getD i .non=x:=by rw[ig,hx]; rfl
   rw[ex];rw[cA,hn] at hx;cases hx;have hi:i<ts.length:=by have:=(jF.mp hn).1; simpa using this
   have et:ts[i]?=some ts[i]:=cT hi;rw[cA,cA,et] at hd;cases hd;refine⟨fun R hR=>by ext; exact hR,fun R hR=>by ext; exact hR,fun R hR=>?_⟩
   ext;exact⟨⋯,fun p H5 f5 s5 e5=>hR _ _ s5 (At.tup e5 (aa.cons (At.int _) (aa.cons (At.int _) (aa.cons (At.int _) aa.nil))))⟩
  intro dt v8 H8 Yn s8 edt a8 l8;have gy8:=s8 _ _ Rj;refine⟨y,C,dx,Ow t lo dp dn ds,rfl,gy8,Z.cl,Z.n6,(show 5<1000 by decide),?_⟩
  have dty:dt≠y:=fun z=>by rw[z,Rj] at Yn; cases Yn
  obtain⟨r8',k8⟩:=stp (fs':=Sv t lo dp dn ds dt) gy8 (r7'.trans (s8.fr _));rw[pf6];have Zk:∀b o,b≠y->K7 b=some o->upd H8 y (.ins C dx (Sv t lo dp dn ds dt)) b=some o:=fun b o e z=>by rw[aH e]; exact s8 _ _ z
  have z8':=aa.kp k8 _ _ (dY _) (z7'.mono s8);have a58:=aa.kp k8 _ _ (fY _) (a57.mono s8);have a88:=aa.kp k8 _ _ (lE _) a8;have Yg:upd H8 y (.ins C dx (Sv t lo dp dn ds dt)) dt=some (.dK (zK (ts.map (·.1)) v8)):=by rw[aH dty]; exact edt
  have U_:upd H8 y (.ins C dx (Sv t lo dp dn ds dt)) y=some (.ins C dx (Sv t lo dp dn ds dt)):=aA
  have fH8:∀b,upd H8 y (.ins C dx (Sv t lo dp dn ds dt)) b=none->K7 b=none:=fun b z=>by
   cases q':K7 b with
   | none=>rfl
   | some o=>
    by_cases e:b=y
    ·rw[e,U_] at z; cases z
    ·rw[Zk _ _ e q'] at z; cases z
  generalize upd H8 y (.ins C dx (Sv t lo dp dn ds dt))=K8 at r8' k8 z8' a58 a88 Yg U_ fH8 Zk ⊢;refine⟨⋯,fun lp H9 Wi s9 elp=>?_⟩
  have gy9:=s9 _ _ U_;refine⟨y,C,dx,Sv t lo dp dn ds dt,rfl,gy9,Z.cl,Z.n7,(show 6<1000 by decide),?_⟩
  have lpy:lp≠y:=fun z=>by rw[z,U_] at Wi; cases Wi
  obtain⟨r9',k9⟩:=stp (fs':=fl7 t lo dp dn ds dt lp) gy9 (r8'.trans (s9.fr _));rw[pf7];have ho9:∀b o,b≠y->K8 b=some o->upd H9 y (.ins C dx (fl7 t lo dp dn ds dt lp)) b=some o:=fun b o e z=>by rw[aH e]; exact s9 _ _ z
  have ad8:upd H9 y (.ins C dx (fl7 t lo dp dn ds dt lp)) lp=some (.lst []):=by rw[aH lpy]; exact elp
  have lo8:=Zk _ _ K9 (U7 _ _ K9 (ho6 _ _ K9 Jx));have dp8:=Zk _ _ Vj (U7 _ _ Vj (ho6 _ _ Vj Q_));have dn8:=Zk _ _ Zu (U7 _ _ Zu U8);have ds8:=Zk _ _ dsy Yh;refine q ⟨y,lo,dp,dn,ds,dt,lp,[]⟩ _ rfl ⟨⟨dx,aA⟩,ho9 _ _ K9 lo8,⟨v5,ho9 _ _ Vj dp8,aa.kp k9 _ _ (fY _) (a58.mono s9)⟩,ho9 _ _ Zu dn8,⟨zs,ho9 _ _ dsy ds8,aa.kp k9 _ _ (dY _) (z8'.mono s9)⟩,⟨v8,ho9 _ _ dty Yg,aa.kp k9 _ _ (lE _) (a88.mono s9)⟩,ad8,trivial,?_⟩ rfl ?_ r9'
  ·have ne:∀{G:Hp}{u v:Addr}{o:HO},G u=some o->G v=none->u≠v:=fun e1 e2 z=>by rw[z,e2] at e1; cases e1
   show[y,lo,dp,dn,ds,dt,lp].Nodup;have lo7:=U7 _ _ K9 (ho6 _ _ K9 Jx);have dp7:=U7 _ _ Vj (ho6 _ _ Vj Q_);have dn7:=U7 _ _ Zu U8;simp only[km,bB,dM,not_or,or_false,not_false_eq_true,List.nodup_nil,and_true];exact⟨⟨K9.symm,Vj.symm,Zu.symm,dsy.symm,dty.symm,lpy.symm⟩,⟨ne Ye fdp,ne Jx fdn,ne (ho6 _ _ K9 Jx) fds,ne lo7 Yn,ne lo8 Wi⟩,⟨ne Q_ fdn,ne (ho6 _ _ Vj Q_) fds,ne dp7 Yn,ne dp8 Wi⟩,⟨ne U8 fds,ne dn7 Yn,ne dn8 Wi⟩,⟨ne Yh Yn,ne ds8 Wi⟩,ne Yg Wi⟩
  ·intro b hb
   replace hb:b∈[y,lo,dp,dn,ds,dt,lp]:=hb
   simp only[bB,dM,or_false] at hb;rcases hb with rfl | rfl | rfl | rfl | rfl | rfl | rfl
   ·exact .inl rfl
   ·exact .inr aef
   ·exact .inr (Zq _ fdp)
   ·exact .inr (Zq _ (fH5 _ fdn))
   ·exact .inr (Zq _ (fH5 _ (fH6 _ fds)))
   ·exact .inr (Zq _ (fH5 _ (fH6 _ (fH7 _ Yn))))
   ·exact .inr (Zq _ (fH5 _ (fH6 _ (fH7 _ (fH8 _ Wi)))))
 ·intro N hN;ext;rcases hsv with⟨rfl,rfl⟩ | ⟨l,zs,rfl,hl,az⟩
  ·refine⟨trivial,?_⟩;rw[bh ⋯]
   have TB:=TA.mono s1.kp;refine pF ((ts.map fun x=>eF x.2.1).map kh) (sY ts lD) (iR ts lD) (fun R hR=>by ext; exact hR) (s1 _ _ hp) (by simp; omega) ∅ (dY _) ?_ ?_
   ·intro i x d H' hx hd s';have TC:=TB.mono s'.kp;refine⟨fun R hR=>xU TC hx hR,fun R hR=>?_⟩;have hi:i<ts.length:=by rw[<- hlen]; exact(jF.mp hx).1
    have et:ts[i]?=some ts[i]:=cT hi;obtain⟨vp,ev,av⟩:=TC.ap.nth (d:=gM ts[i].2.1) (by rw[cA,cA,et]; rfl)
    rw[cA,cA,et] at hd;cases hd;rw[iG et];ext;rw[ig,ev];exact⟨vp,_,rfl,av,fun u dF s'' au=>hR _ _ s'' au⟩
   ·intro l zs H2 f2 s2 e2 a2;exact hN _ _ ⟨l,zs,rfl,e2,a2,s1.trans s2⟩
  ·refine⟨trivial,?_⟩;rw[aX (by simp)]
   exact hN _ _ ⟨l,zs,rfl,s1 _ _ hl,az.mono s1,s1⟩
theorem aeP{x:Option V}{σ:St}:bQ [0] (x::σ)=[x]:=rfl
theorem Hm{H:Hp}:∀{bs:List Bool}{us:List V},aa H (bs.map .bool) us->us=bs.map V.bl
 | [],_,h=>aa.fH h
 | b::bs,us,h=>by
  obtain⟨x,r,rfl,h1,h2⟩:=aa.aJ h;have e:x=.bl b:=by unfold At at h1; exact h1
  rw[e,Hm h2]; rfl
def Kd(C:Addr):Sp:=fun vs H Q _=>∃(a:Ya)(y:Yd)(l:Addr)(ns:List Str),vs=[.ref a.p,.ref l]/\bM C H a y/\H l=some (.lst (ns.map V.str))/\ns.Nodup/\ns.length<=1000/\(∀n∈ns,n∈y.ns)/\∀H',aK H H'->Q .non H'
theorem g_:aV AU AU (aD fu):=(by walk_at "c")
theorem oA{C:Addr}(F:jL K "check_names" "Yard.check_names" fu f fd)(B:Bi mg)(Z:ZY K C):bF P w K mg base iy (k+1) f fd AU (Kd C):=by
 refine F.ok g_ (hbody:=(0:))
 refine uO h fun a y l ns lC YA hl nn Ef=>?_; clear h; subst lC; obtain⟨afW,nin,q⟩:=Ef;have ND:=g_.nd;refine⟨_,(aF (cN (PW.pt (rK (bf uQ (pb Bq B.len dU (ak (pt (Bp rfl) B.set RT (ak (pv 1) aj)) aj)) (pb (cB (K:=K) rfl) B.len dU (ak (pv 1) aj)) (bc _)) (lU (n_ (gK (pb (uo rfl) B.all JR (ak (cX (N':=["name","self"]) (js:=[0]) rfl (cP (pv 1)) sX.mk1 rfl ⋯ rfl (fun fp s' H'=>(eX (XC (K:=K) rfl) (pv 0) (cM (K:=K) rfl (pv 1)) (by with_unfolding_all rfl)))) aj))))))) (aF Gq) bI)),?_⟩
 ext;refine⟨l,ns,rfl,hl,∅,fun pz H2 f2 s2 e2=>⟨pz,_,rfl,e2,?_,l,_,rfl,.inl (bT.of (s2 _ _ hl)),?_⟩⟩
 ·have:=(ph ns).1;omega
 have hdc:=ph ns;refine⟨_,_,rfl,rfl,?_⟩
 rw[aX (by
  intro z;have z':=Cr z;rw[bN] at z'
  exact hdc.2.mp ∅ nn)]
 refine iK ((ns.map fun _=>true).map .bool) (fun R hR=>by ext; exact hR) (s2 _ _ hl) (by simp) (by simp; omega) (bj.mpr fun d hd=>by obtain⟨z,_,rfl⟩:=dZ.mp hd; rfl) (fun i x d H' hx hd s' R hR=>?_) fun ab ub H3 f3 s3 e3 a3=>?_
 ·rw[cA] at hx;rw[cA,cA] at hd;cases et:ns[i]? with
  | none=>rw[et] at hx; cases hx
  | some n=>
   rw[et] at hx hd;cases hx;cases hd;rw[aeP];ext;refine Fl.order (Q:=fun v H=>rIn K false (.str n) v H R) Z (YA.mono (s2.trans s')) ?_;refine⟨a.lo,_,rfl,.inl (bT.of (YA.mono (s2.trans s')).lo),rfl,Bj _,?_⟩;rw[aX ⋯,Dl,rH (nin n (dC et))]
   exact hR _ _ (aK.refl _) (At.bool _)
 ·have eb:ub=(ns.map fun _=>true).map V.bl:=Hm a3;subst eb;refine⟨ab,_,rfl,e3,?_⟩;rw[aX (by simp)]
  exact q _ (s2.trans s3)
def Xb(C:Addr):Sp:=fun vs H Q _=>∃(a:Ya)(y:Yd),vs=[.ref a.p]/\bM C H a y/\dX y/\∀H',aK H H'->Q (.int (hands y.ss)) H'
theorem nH:aV AV AV (aD jU):=(by walk_at "c")
theorem yc{C:Addr}(F:jL K "hands" "Yard.hands" jU f fd)(B:Bi mg)(Z:ZY K C)(cW:Ct P w K mg base k "hands_of" ["stand"] vR):bF P w K mg base iy (k+1) f fd AV (Xb C):=by
 refine F.ok nH (hbody:=(0:))
 obtain⟨a,y,rfl,YA,YO,q⟩:=h;have ND:=nH.nd;refine⟨_,(aF (aZ (pb (dH rfl) B.sum j6 (ak (Ue (cX (N':=["stand"]) (js:=[]) rfl (Uc (K:=K) rfl (cM (K:=K) rfl (pv 0))) sX.Ux rfl ⋯ rfl (fun fp s' H'=>(pf cW hr (ak (pv 0) aj))))) aj)))),?_⟩
 obtain⟨vs,ed,av⟩:=YA.ds;have lv:=av.length;rw[bN] at lv;have l1:=YO.ls;have l5:=YO.n5;have lz:(zK y.ns vs).length=y.ns.length:=HJ ∅
 ext;refine Vk (y.ss.map hnd) (fun R hR=>by ext; exact Fl.stands Z YA hR) ed (by rw[bN,lz]; omega) ∅ (fun i kk x m H' hx hm kp R hR=>?_) fun acc H' f' s' e'=>?_
 ·unfold zK at hx;rw[Kz] at hx;obtain⟨d',hd',ad⟩:=av.get hx.2;rw[cA] at hd' hm;cases ex:y.ss[i]? with
  | none=>rw[ex] at hd'; cases hd'
  | some x'=>
   rw[ex] at hd' hm;cases hm;cases hd';obtain⟨a0,xs0,rfl,h1,h2⟩:=aY (At.kp kp _ _ (B_ _) ad);obtain⟨x0,_,rfl,b0,h2⟩:=aa.aJ h2;obtain⟨x1,_,rfl,b1,h2⟩:=aa.aJ h2;obtain⟨x2,_,rfl,b2,h2⟩:=aa.aJ h2;obtain⟨c0,cs0,rfl,g1,g2⟩:=aY b2;have:=cF (cs:=x'.cs) g2;subst this;have e1:x1=.int x'.r:=by unfold At at b1; exact b1
   subst e1;ext;exact⟨_,_,_,_,_,_,_,rfl,rfl,h1,g1,hR _ (aK.refl _)⟩
 ·refine⟨acc,_,rfl,.inl e',?_⟩;exact q _ s'
def Fi(C:Addr)(g:Yd->List PyData):Sp:=fun vs H Q _=>∃(a:Ya)(y:Yd)(i:Nat)(n:Str)(d:PyData),vs=[.ref a.p,.str n]/\bM C H a y/\dX y/\y.ns[i]?=some n/\(g y)[i]?=some d/\∀v H',aK H H'->At H' d v->Q v H'
def gS(y:Yd):List PyData:=y.ss.map kh
def gT(y:Yd):List PyData:=y.ts.map j9
theorem nG:aV AW AW (aD jT):=(by walk_at "c")
theorem x_{C:Addr}(F:jL K "stand" "Yard.stand" jT f fd)(Z:ZY K C)(bz:Ek P w K mg base k C "check_names" AU (Kd C)):bF P w K mg base iy (k+1) f fd AW (Fi C gS):=by
 refine F.ok nG (hbody:=(0:))
 refine mK h fun a y i n d BK YA YO hn hd q=>?_; clear h; subst BK;have ND:=nG.nd;refine⟨_,(aq (dq (pm bz hr (pv 0) (ak (cG (ak (pv 1) aj)) aj))) (aF (aZ (aU (yq hr.units) (cM (K:=K) rfl (pv 0)) (pv 1) (fun _ _=>rfl))))),?_⟩;ext;refine Me.of (m:="check_names") (R:=fun p=>_) YA (fun _ _ _ _ _ _ _=>rfl) ?_;refine⟨⋯,fun p H1 f1 s1 e1=>?_⟩
 refine⟨a,y,p,[n],rfl,YA.mono s1,e1,by simp,by simp,by intro m hm; rw[fV.mp hm]; exact dC hn,fun H2 s2=>?_⟩
 have YB:=YA.mono (s1.trans s2);obtain⟨us,ed,av⟩:=YB.ds;obtain⟨v,ev,aw⟩:=av.nth hd;have lv:=av.length;have l1:=YO.ls;rw[bN] at lv;obtain⟨dx,ob⟩:=YB.ob;exact⟨_,_,_,_,_,rfl,ob,Z.cl,Z.n5,o_ ..,_,v,rfl,m8.z ed YO.nn hn ∅ ev,q _ _ (s1.trans s2) aw⟩
def VN(C:Addr):Sp:=fun vs H Q _=>∃(a:Ya)(y:Yd),vs=[.ref a.p]/\bM C H a y/\dX y/\Q (.int (y.pa.length:Nat)) H
theorem nJ:aV AV AV (aD jV):=(by walk_at "c")
theorem yd{C:Addr}(F:jL K "beats" "Yard.beats" jV f fd)(B:Bi mg)(Z:ZY K C):bF P w K mg base iy (k+1) f fd AV (VN C):=by
 refine F.ok nJ (hbody:=(0:))
 obtain⟨a,y,rfl,YA,YO,q⟩:=h;have ND:=nJ.nd;refine⟨_,(aF (aZ (pb (cB (K:=K) rfl) B.len dU (ak (cM (K:=K) rfl (pv 0)) aj)))),?_⟩;ext;obtain⟨dx,ob⟩:=YA.ob;refine⟨_,_,_,_,_,rfl,ob,Z.cl,Z.n7,Dt ..,?_⟩;refine⟨_,_,rfl,.inl (bT.of YA.lp),?_⟩;rw[bN,YA.pa.length];exact q
theorem bU.nth{H:Hp}:∀{ls:List Addr}{rs:List (List Rw)}{i:Nat}{l:Addr},bU H ls rs->ls[i]?=some l->∃r xs,rs[i]?=some r/\H l=some (.lst xs)/\aa H (r.map vU) xs
 | [],[],i,l,_,h=>by simp at h
 | l::ls,r::rs,0,_,h,e=>by cases e; obtain⟨⟨xs,e,a⟩,_⟩:=h; exact⟨r,xs,rfl,e,a⟩
 | l::ls,r::rs,i+1,_,h,e=>bU.nth (i:=i) h.2 e
 | [],_::_,_,_,h,_=>h.elim
 | _::_,[],_,_,h,_=>h.elim
theorem Hb{js:List Nat}{a:Addr}{ls:List Addr}{rs:List (List Rw)}{tl te:TE}{σ:St}{H:Hp}{Q:VK}(hl:∀R:VK,R (.ref a) H->tl σ H R)(ha:H a=some (.lst (ls.map V.ref)))(hz:ls.length<=1000)(hp:bU H ls rs)
  (step:∀(l:Addr) xs H',H' l=some (.lst xs)->∀R:VK,(∀p,H' p=none->R (.ref p) (upd H' p (.lst xs)))->te (some (.ref l)::bQ js σ) H' R)
  (fin:∀acc ms H',H acc=none->(∀b∈ms,H b=none)->(acc::ms).Nodup->aK H H'->H' acc=some (.lst (ms.map V.ref))->bU H' ms rs->Q (.ref acc) H'):iB js (p_ K tl) te σ H Q:=by
 refine hl _ ⟨a,rfl,⟨_,bT.of ha⟩,fun acc hacc=>?_⟩;have lr:=hp.length;refine⟨fun i m ys H2=>m=ls.length-i/\i<=ls.length/\∃ms,ys=ms.map V.ref/\ms.length=i/\bU H2 ms (rs.take i)/\(∀b∈ms,H b=none)/\(acc::ms).Nodup/\aK H H2/\H2 acc=some (.lst ys),⟨_,rfl,gC _,[],rfl,rfl,trivial,fun b hb=>by simp at hb,by simp,aO hacc _,aA⟩,?_⟩
 rintro i m ys H2 ⟨rfl,hi,ms,rfl,lm,pm,fm,nm,s2,e2⟩;have ht:bT K H2 a (ls.map V.ref):=bT.of (s2 _ _ ha);by_cases hlt:i<ls.length
 ·have el:ls[i]?=some ls[i]:=cT hlt;have elr:(ls.map V.ref)[i]?=some (.ref ls[i]):=by rw[cA,el]; rfl
  refine .inr ⟨⟨_,_,ht,elr⟩,fun x H3 y=>?_⟩;obtain⟨e1,y⟩:=y;subst e1;have ex:=(y _ ht).symm.trans elr;cases ex;refine bG (hp.nth el) fun r xs er exs ax=>?_;refine step _ xs _ (s2 _ _ exs) _ fun p fp=>?_;have pa:p≠acc:=fun z=>by rw[z,e2] at fp; cases fp
  have fp0:H p=none:=by
   cases q':H p with
   | none=>rfl
   | some o=>rw[s2 _ _ q'] at fp; cases fp
  have pm':p∉ms:=fun z=>by
   obtain⟨xs',e'⟩:=pm.all p z;rw[e'] at fp; cases fp
  have sp:=aO fp (HO.lst xs);have k4:fJ H3 (upd (upd H3 p (.lst xs)) acc (.lst (ms.map V.ref++[.ref p]))):=sp.kp.trans (fJ.putL (sp _ _ e2));refine⟨sp _ _ e2,aQ (by rw[bN]; omega),ls.length-(i+1),∅,rfl,hlt,ms++[p],by rw[gJ]; rfl,by rw[cC,lm]; rfl,?_,?_,?_,?_,aA⟩
  ·rw[cU er];refine bU.snoc (xs:=xs) (pm.keep k4 fun b hb o e=>?_) (by rw[aH pa,aA]) (aa.kp (s2.kp.trans k4) _ _ (jC r) ax)
   rw[aH (fun z=>by rw[z] at hb; exact(km.mp nm).1 hb)]
   exact sp _ _ e
  ·intro b hb;rcases d_.mp hb with h | h
   ·exact fm b h
   ·rw[fV.mp h]; exact fp0
  ·have:=km.mp nm;rw[km,vh];refine⟨fun z=>?_,this.2,by simp,fun u hu v hv e=>?_⟩
   ·rcases d_.mp z with h | h
    ·exact this.1 h
    ·exact pa (fV.mp h).symm
   ·rw[fV.mp hv] at e; rw[e] at hu; exact pm' hu
  ·intro b o z;rw[aH (fun e=>by rw[e,hacc] at z; cases z)]
   exact sp _ _ (s2 _ _ z)
 ·have e:i=ls.length:=by omega
  subst e;rw[lr,rJ] at pm;exact .inl ⟨⟨_,ht,by rw[bN]; exact bw _⟩,fin acc ms H2 hacc fm nm s2 e2 pm⟩
def VM(C:Addr):Sp:=fun vs H Q _=>∃(a:Ya)(y:Yd),vs=[.ref a.p]/\bM C H a y/\dX y/\∀p ms H',H p=none->(∀b∈ms,H b=none)->(p::ms).Nodup->aK H H'->H' p=some (.lst (ms.map V.ref))->bU H' ms y.pa->Q (.ref p) H'
theorem pW:aV AV AV (aD lG):=(by walk_at "c")
theorem zm{C:Addr}(F:jL K "told" "Yard.told" lG f fd)(B:Bi mg)(Z:ZY K C):bF P w K mg base iy (k+1) f fd AV (VM C):=by
 refine F.ok pW (hbody:=(0:))
 obtain⟨a,y,rfl,YA,YO,q⟩:=h;have ND:=pW.nd;refine⟨_,(aF (aZ (cX (N':=["rows"]) (js:=[]) rfl (cP (cM (K:=K) rfl (pv 0))) sX.Ux rfl ⋯ rfl (fun fp s' H'=>(pt (lA) B.list my (ak (pv 0) aj)))))),?_⟩
 ext;have l1:=YA.pa.length;have l2:=YO.pn;obtain⟨dx,ob⟩:=YA.ob;refine Hb (fun R hR=>by ext; exact⟨_,_,_,_,_,rfl,ob,Z.cl,Z.n7,Dt ..,hR⟩) YA.lp ∅ YA.pa (fun l xs H' hx R hR=>?_) fun acc ms H' f1 f2 f3 s' e' a'=>?_
 ·ext;exact⟨_,_,rfl,hx,hR⟩
 ·exact q _ _ _ f1 f2 f3 s' e' a'
theorem yr:∀(cs:List Int)(g:Int),(bx cs g).1.sum=cs.sum-g+(bx cs g).2
 | [],g=>by simp[bx]; omega
 | c::cs,g=>by
  have:=yr cs g;rw[bx,y_,y_,this];simp only;generalize (if(bx cs g).2<c then(bx cs g).2 else c)=z
  omega
theorem Bg:∀(cs:List Int)(g:Int),(∀c∈cs,0<=c)->0<=g->(∀c∈(bx cs g).1,0<=c)/\0<=(bx cs g).2/\((bx cs g).2=0\/(bx cs g).1.sum=0)
 | [],g,_,hg=>⟨by simp[bx],by simpa[bx] using hg,.inr (by simp[bx])⟩
 | c::cs,g,h,hg=>by
  obtain⟨h1,h2,h3⟩:=Bg cs g (fun y hy=>h y (cI _ hy)) hg;have hc:=h c dg;rw[bx];simp only;generalize hG:(bx cs g).2=G at *;refine⟨fun y hy=>?_,?_,?_⟩
  ·rcases bB.mp hy with z | z
   ·rw[z]; split <;> omega
   ·exact h1 y z
  ·split <;> omega
  ·rw[y_];split <;> omega
structure Wth(x:eO)(st n:gD)(ch:Int):Prop where
 w:n.w=st.w
 s:n.s=st.s
 u:n.us=st.us
 r:0<=n.r
 c:n.cs.length=5
 cn:∀y∈n.cs,0<=y
 sm:n.r+n.cs.sum=st.r+st.cs.sum+ch
 t:n.t=if ch=0 then st.t else if 0<ch then x.u else x.d
theorem HQ{x:eO}{st:gD}{ch:Int}(ha:x.a<=4)(hr:0<=st.r)(hl:st.cs.length=5)(hc:∀y∈st.cs,0<=y)(hz:0<=st.r+st.cs.sum+ch):Wth x st (fO x st ch) ch:=by
 by_cases c1:ch=0
 ·subst c1;have e:fO x st 0=st:=rfl;rw[e];exact⟨rfl,rfl,rfl,hr,hl,hc,∅,rfl⟩
 ·by_cases c2:0<ch
  ·have e:fO x st ch={ st with cs:=st.cs.take x.a++[st.cs.getD x.a 0+ch]++st.cs.drop (x.a+1),t:=x.u }:=by unfold fO; rw[aX c1,bh c2]
   rw[e];refine⟨rfl,rfl,rfl,hr,?_,?_,?_,?_⟩
   ·simp only[cC,kI,Cp,fU,mX];omega
   ·intro y hy;rcases d_.mp hy with z | z
    ·rcases d_.mp z with z | z
     ·exact hc y (FQ z)
     ·rw[fV.mp z];have hlt:x.a<st.cs.length:=by omega
      have:0<=st.cs.getD x.a 0:=by
       rw[ig,cT hlt];exact hc _ (mZ hlt)
      omega
    ·exact hc y (Kq z)
   ·show st.r+(st.cs.take x.a++[st.cs.getD x.a 0+ch]++st.cs.drop (x.a+1)).sum=_;obtain⟨y0,y1,y2,y3,y4,ey⟩:=X3 hl;rw[ey];have:x.a=0\/x.a=1\/x.a=2\/x.a=3\/x.a=4:=by omega
    rcases this with e | e | e | e | e <;> rw[e] <;> simp <;> omega
   ·show x.u=_;rw[aX c1,bh c2]
  ·have e:fO x st ch={ st with r:=st.r-(bx st.cs (-ch)).2,cs:=(bx st.cs (-ch)).1,t:=x.d }:=by unfold fO; rw[aX c1,aX c2]
   rw[e];obtain⟨k1,k2,k3⟩:=Bg st.cs (-ch) hc ∅
   have k4:=yr st.cs (-ch);have k5:=tM _ k1;refine⟨rfl,rfl,rfl,?_,?_,k1,?_,?_⟩
   ·show 0<=st.r-(bx st.cs (-ch)).2;omega
   ·show(bx st.cs (-ch)).1.length=5;rw[qL]; exact hl
   ·show st.r-(bx st.cs (-ch)).2+(bx st.cs (-ch)).1.sum=_;omega
   ·show x.d=_;rw[aX c1,aX c2]
theorem jH{st:gD}(h:st.cs.length=5):bZ st+(st.cs.drop 1++[0]).sum=st.r+st.cs.sum:=by
 obtain⟨a,b,c,d,e,hc⟩:=X3 h;unfold bZ;rw[hc];simp;omega
theorem Qn{st:gD}(h:st.cs.length=5)(hr:0<=st.r)(hc:∀y∈st.cs,0<=y):0<=bZ st:=by
 obtain⟨a,b,c,d,e,ec⟩:=X3 h;have:=hc a (by rw[ec]; exact dg)
 unfold bZ; rw[ec]; show 0<=st.r+a; omega
theorem QW{st:gD}(hc:∀y∈st.cs,0<=y):∀y∈st.cs.drop 1++[0],0<=y:=fun y hy=>by
 rcases d_.mp hy with z | z
 ·exact hc y (Kq z)
 ·rw[fV.mp z]; exact Ak 0
structure NxN(x:eO)(st:gD)(c fr:Int):Prop where
 s:Hs (fO x (iu x st c) (uY x st c fr))
 h:hnd (fO x (iu x st c) (uY x st c fr))=hnd st+uY x st c fr
 l:uY x st c fr<=fr\/uY x st c fr<=0
theorem Jp{x:eO}{st:gD}{c fr:Int}(hx:Ei x)(hs:Hs st)(hfr:0<=fr):NxN x st c fr:=by
 have hc5:=hs.c;have h0:=tM _ hs.cn;have h1:=hs.r;have hlo:=hx.lo;have hhi:=hx.hi
 have hwb:0<=ux x.ir x.lo x.hi (st.r+st.cs.sum) (gm x st c):=by
  unfold ux;simp only
  repeat' split <;> try omega
 have hbd:0<=st.r+st.cs.sum+uY x st c fr/\(uY x st c fr<=fr\/uY x st c fr<=0):=by
  unfold uY;rw[jH hc5];split
  ·unfold wj;split <;> omega
  ·omega
 have hml:(st.cs.drop 1++[0]).length=5:=by simp[hc5]
 have hW:=HQ (x:=x) (st:=iu x st c) (ch:=uY x st c fr) hx.a (Qn hc5 hs.r hs.cn) hml (QW hs.cn) (by show 0<=bZ st+(st.cs.drop 1++[0]).sum+uY x st c fr; rw[jH hc5]; exact hbd.1)
 have hi:=Tc (ch:=uY x st c fr) hx.is (GD (x:=x) (come:=c) hs.is);refine⟨⟨hW.r,hi.c,hW.cn,hi.u,hi.l⟩,?_,hbd.2⟩;have:=hW.sm;have e:(iu x st c).r+(iu x st c).cs.sum=st.r+st.cs.sum:=jH hc5;rw[e] at this;exact this
def x0:eO:=⟨1,0,0,0,0,1,0,0,[]⟩
def s0:gD:=⟨0,0,[],0,0,[]⟩
def iD(y:Yd):Int:=if 12<y.tot-hands y.ss then 12 else y.tot-hands y.ss
def j7(y:Yd)(i:Nat):eO:=y.ps.getD i x0
def jG(y:Yd)(i:Nat):gD:=y.ss.getD i s0
def V6(y:Yd)(i:Nat)(c:Int):gD:=fO (j7 y i) (iu (j7 y i) (jG y i) c) (uY (j7 y i) (jG y i) c (iD y))
def Je(y:Yd)(i:Nat):List Int:=y.ts.getD i []
def vA(y:Yd)(i:Nat)(c:Int):Rw:=⟨y.ns.getD i "",c,gr (j7 y i) (jG y i) c,c-cu (j7 y i) (jG y i) c,uY (j7 y i) (jG y i) c (iD y)⟩
def JT(t:List Int)(c d a:Int):List Int:=[t.getD 0 0+c,t.getD 1 0+d,t.getD 2 0+a]
def Jd(y:Yd)(i:Nat)(c:Int):Yd:={ y with ss:=y.ss.set i (V6 y i c),ts:=y.ts.set i (JT (Je y i) c (vA y i c).d (vA y i c).a) }
theorem Be{ss:List gD}{i:Nat}{s n:gD}(h:ss[i]?=some s):hands (ss.set i n)=hands ss-hnd s+hnd n:=by
 induction ss generalizing i with
 | nil=>simp at h
 | cons z zs ih=>
  cases i with
  | zero=>cases h; simp only[List.set_cons_zero,hands,gH,y_]; omega
  | succ i=>
   have:=ih (i:=i) h;simp only[List.set_cons_succ,hands,gH,y_] at this ⊢;omega
theorem Dr{y:Yd}(YO:dX y):0<=iD y:=by
 have:=YO.hs;unfold iD;split <;> omega
theorem Xy{y:Yd}{i:Nat}{c:Int}(YO:dX y)(hi:i<y.ns.length):dX (Jd y i c):=by
 have l1:=YO.lp;have l2:=YO.ls;have l3:=YO.lt;have es:y.ss[i]?=some y.ss[i]:=cT ∅
 have e1:jG y i=y.ss[i]:=by unfold jG; rw[ig,es]; rfl
 have e2:j7 y i=y.ps[i]:=by unfold j7; rw[ig,cT (by omega:i<y.ps.length)]; rfl
 have N:=Jp (x:=j7 y i) (st:=jG y i) (c:=c) (by rw[e2]; exact YO.pg _ (mZ _)) (by rw[e1]; exact YO.sg _ (mZ _)) (Dr YO)
 refine { YO with ls:=by show(y.ss.set i _).length=_; rw[List.length_set]; exact l2,lt:=by show(y.ts.set i _).length=_; rw[List.length_set]; exact l3,sg:=?_,tg:=?_,hs:=?_ }
 ·intro s hs;rcases M6 hs with h | h
  ·exact YO.sg s h
  ·rw[h]; exact N.s
 ·intro t ht;rcases M6 ht with h | h
  ·exact YO.tg t h
  ·rw[h]; rfl
 ·show hands (y.ss.set i (V6 y i c))<=y.tot;rw[Be es];have hN:hnd (V6 y i c)=hnd (jG y i)+uY (j7 y i) (jG y i) c (iD y):=N.h;rw[hN,e1];have h1:=N.l;rw[e1] at h1;have h2:=YO.hs;have h3:iD y<=y.tot-hands y.ss:=by unfold iD; split <;> omega
  omega
theorem aa.put{H:Hp}{d:PyData}{v:V}(a:At H d v):∀{ds:List PyData}{vs:List V}{i:Nat},aa H ds vs->aa H (ds.set i d) (vs.set i v)
 | [],vs,i,h=>by cases aa.fH h; exact aa.nil
 | e::ds,vs,i,h=>by
  obtain⟨x,r,rfl,h1,h2⟩:=aa.aJ h;cases i with
  | zero=>exact aa.cons a h2
  | succ i=>exact aa.cons h1 (aa.put a h2)
def aaf(C:Addr):Sp:=fun vs H Q _=>∃(a:Ya)(y:Yd)(i:Nat)(n:Str)(c:Int),vs=[.ref a.p,.str n,.int c]/\bM C H a y/\dX y/\y.ns[i]?=some n/\∀v H',bM C H' a (Jd y i c)->Fr [a.ds,a.dt] H H'->At H' (vU (vA y i c)) v->Q v H'
theorem iV:aV ["self","name","come","free","stand","done","away","change","all_come","all_done","all_away"] ["self","name","come"] (aD fX):=(by walk_at "c")
theorem qI{C:Addr}(F:jL K "post_beat" "Yard.post_beat" fX f fd)(B:Bi mg)(O:Co K mg)(Z:ZY K C)(dI:Ek P w K mg base k C "hands" AV (Xb C))(lZ:SN P w K mg base k "beat_beats" AJ 12 Qd):bF P w K mg base iy (k+1) f fd ["self","name","come"] (aaf C):=by
 refine F.ok iV (hbody:=(0:))
 obtain⟨a,y,i,n,c,rfl,YA,YO,hn,q⟩:=h;have ND:=iV.nd;refine⟨_,(aq (aR (i:=3) (pb (cZ rfl) B.min jt (ak (aL gk (cM (K:=K) rfl (pv 0)) (pm0 dI hr (pv 0))) (ak (CQ O.JZ) aj)))) (aq (dN (pfa lZ hr (ak (aU (yq hr.units) (cM (K:=K) rfl (pv 0)) (pv 1) (fun _ _=>rfl)) (ak (aU (yq hr.units) (cM (K:=K) rfl (pv 0)) (pv 1) (fun _ _=>rfl)) (ak (pv 2) (ak (pv 3) aj))))) (ud rfl (aB (aC (i:=4)) (aB (aC (i:=5)) (aB (aC (i:=6)) (aB (aC (i:=7)) bC)))))) (aq (dN (pv 4) (xR (cM (K:=K) rfl (pv 0)) (pv 1) (Io hr.units))) (aq (dN (aU (yq hr.units) (cM (K:=K) rfl (pv 0)) (pv 1) (fun _ _=>rfl)) (ud rfl (aB (aC (i:=8)) (aB (aC (i:=9)) (aB (aC (i:=10)) bC))))) (aq (dN (bA (ak (aL bu (pv 8) (pv 2)) (ak (aL bu (pv 9) (pv 5)) (ak (aL bu (pv 10) (pv 6)) aj)))) (xR (cM (K:=K) rfl (pv 0)) (pv 1) (Io hr.units))) (aF (aZ (bA (ak (pv 1) (ak (pv 2) (ak (pv 5) (ak (pv 6) (ak (pv 7) aj))))))))))))),?_⟩
 ext;obtain⟨dx,ob⟩:=YA.ob;refine(BW _ _ _ _ _ ⟨rfl,ob,Z.cl,Z.n1,Rr ..,?_⟩);refine Me.of (m:="hands") (R:=fun p=>_) YA (fun _ _ _ _ _ _ _=>rfl) ?_;refine(jM a y ⟨rfl,YA,YO,fun H1 s1=>?_⟩);have l1:=YO.lp;have l2:=YO.ls;have l3:=YO.lt;have l5:=YO.n5;have hi:i<y.ns.length:=(jF.mp hn).1;have YB:=YA.mono s1;have e1:y.ps[i]?=some (j7 y i):=by unfold j7; rw[ig,cT (by omega:i<y.ps.length)]; rfl
 have e2:y.ss[i]?=some (jG y i):=by unfold jG; rw[ig,cT (by omega:i<y.ss.length)]; rfl
 have e3:y.ts[i]?=some (Je y i):=by unfold Je; rw[ig,cT (by omega:i<y.ts.length)]; rfl
 obtain⟨lD,edp,ap⟩:=YB.dp;obtain⟨Za,eds,as⟩:=YB.ds;obtain⟨vp,evp,avp⟩:=ap.nth (i:=i) (d:=gM (j7 y i)) (by rw[cA,e1]; rfl)
 obtain⟨vs',evs,avs⟩:=as.nth (i:=i) (d:=kh (jG y i)) (by rw[cA,e2]; rfl)
 have lp:=ap.length;have ls:=as.length;rw[bN] at lp ls;have ob1:=s1 _ _ ob;refine(jM _ _ ⟨rfl,rfl,?_⟩);refine(BW _ _ _ _ _ ⟨rfl,ob1,Z.cl,Z.n3,Rt ..,jM _ vp ⟨rfl,m8.z edp YO.nn hn ∅ evp,BW _ _ _ _ _ ⟨rfl,ob1,Z.cl,Z.n5,o_ ..,jM _ vs' ⟨rfl,m8.z eds YO.nn hn ∅ evs,?_⟩⟩⟩⟩)
 refine(xi6 vp vs' (j7 y i) (jG y i) c (iD y) ⟨rfl,avp,avs,(YO.pg _ (dC e1)).is,(YO.sg _ (dC e2)).is,fun p u' H2 s2 au e4=>?_⟩);refine⟨p,_,rfl,fK.of e4,rfl,?_⟩;ext;have ob2:=s2 _ _ ob1;have s12:=s1.trans s2;have nd:=YA.nd
 have nds:a.ds≠a.p/\a.dt≠a.p/\a.dt≠a.ds:=by
  unfold Ya.own at nd;have:=(vh.mp nd).1;simp only[km,bB,dM,not_or,or_false] at this;exact⟨Ne.symm this.1.2.2.2.1,Ne.symm this.1.2.2.2.2.1,Ne.symm this.2.2.2.2.1.1⟩
 refine(BW _ _ _ _ _ ⟨rfl,ob2,Z.cl,Z.n5,o_ ..,jM _ _ ⟨rfl,vQ.z (s2 _ _ eds) YO.nn hn ∅ ∅,?_⟩⟩)
 obtain⟨Y_,edt,at'⟩:=YA.dt;have ltt:=at'.length;rw[bN] at ltt;have k3:fJ H2 (upd H2 a.ds (.dK (zK y.ns (Za.set i u')))):=fJ.putD (s2 _ _ eds);have f3:Fr [a.ds] H2 (upd H2 a.ds (.dK (zK y.ns (Za.set i u')))):=Fr.put (by simp)
 have abu:upd H2 a.ds (.dK (zK y.ns (Za.set i u'))) a.ds=some (.dK (zK y.ns (Za.set i u'))):=aA;generalize upd H2 a.ds (.dK (zK y.ns (Za.set i u')))=H3 at k3 f3 abu ⊢;have ob3:=f3 _ _ ob2 (by simpa using Ne.symm nds.1)
 have Yr:=f3 _ _ (s12 _ _ edt) (by simpa using nds.2.2)
 have at3:=aa.kp (s12.kp.trans k3) _ _ (lE _) at';obtain⟨vt,evt,avt⟩:=at3.nth (i:=i) (d:=j9 (Je y i)) (by rw[cA,e3]; rfl)
 obtain⟨t0,t1,t2,et⟩:∃t0 t1 t2,Je y i=[t0,t1,t2]:=by
  have:=YO.tg _ (dC e3)
  match Je y i,this with
  | [t0,t1,t2],_=>exact⟨t0,t1,t2,rfl⟩
 rw[et] at avt;refine bG (aY avt) fun b0 xs0 cL h1 h2=>?_; subst cL;have:=cF (cs:=[t0,t1,t2]) h2;subst this;refine(BW _ _ _ _ _ ⟨rfl,ob3,Z.cl,Z.n6,qM ..,jM _ _ ⟨rfl,m8.z Yr YO.nn hn ∅ evt,?_⟩⟩)
 refine⟨b0,_,rfl,fK.of h1,rfl,?_⟩;ext;refine⟨⋯,fun q4 H4 f4 s4 e5=>?_⟩
 have abt:=s4 _ _ Yr;refine(BW _ _ _ _ _ ⟨rfl,s4 _ _ ob3,Z.cl,Z.n6,qM ..,jM _ _ ⟨rfl,vQ.z abt YO.nn hn ∅ ∅,⋯,fun p6 H6 f6 s6 e6=>?_⟩⟩)
 have k5:fJ H4 (upd H4 a.dt (.dK (zK y.ns (Y_.set i (.ref q4))))):=fJ.putD abt;have f5:Fr [a.dt] H4 (upd H4 a.dt (.dK (zK y.ns (Y_.set i (.ref q4))))):=Fr.put (by simp)
 have abr:upd H4 a.dt (.dK (zK y.ns (Y_.set i (.ref q4)))) a.dt=some (.dK (zK y.ns (Y_.set i (.ref q4)))):=aA;generalize upd H4 a.dt (.dK (zK y.ns (Y_.set i (.ref q4))))=H5 at k5 f5 abr f6 s6;have fr:Fr [a.ds,a.dt] H H6:=(s12.fr _).trans ((f3.sub fun b hb=>.inl (by rw[fV.mp hb]; simp)).trans ((s4.fr _).trans ((f5.sub fun b hb=>.inl (by rw[fV.mp hb]; simp)).trans (s6.fr _))))
 have k26:fJ H2 H6:=k3.trans (s4.kp.trans (k5.trans s6.kp));have kp:fJ H H6:=s12.kp.trans k26;unfold Ya.own at nd;obtain⟨Sh,nd2,nd3⟩:=vh.mp nd;simp only[km,bB,dM,not_or,or_false] at Sh;obtain⟨⟨n12,n13,n14,n15,n16,n17⟩,⟨n23,n24,n25,n26,n27⟩,⟨n34,n35,n36,n37⟩,⟨n45,n46,n47⟩,⟨n56,n57⟩,n67,_⟩:=Sh;have off:∀{b:Addr}{o:HO},H b=some o->b≠a.ds->b≠a.dt->H6 b=some o:=fun {b o} e h1 h2=>fr b o e (by simp[h1,h2])
 have eqr:vA y i c=⟨n,c,gr (j7 y i) (jG y i) c,c-cu (j7 y i) (jG y i) c,uY (j7 y i) (jG y i) c (iD y)⟩:=by
  unfold vA;rw[ig,hn]; rfl
 obtain⟨ac7,aew,ap0⟩:=YA.dp;refine q _ H6 ⟨⟨dx,off ob n15 n16⟩,off YA.lo n25 n26,⟨ac7,off aew n35 n36,aa.kp kp _ _ (fY _) ap0⟩,off YA.dn n45 n46,⟨Za.set i u',?_,?_⟩,⟨Y_.set i (.ref q4),s6 _ _ abr,?_⟩,off YA.lp (Ne.symm n57) (Ne.symm n67),?_,YA.nd⟩ fr ?_
 ·exact s6 _ _ (f5 _ _ (s4 _ _ abu) (by simpa using n56))
 ·show aa H6 ((y.ss.set i (V6 y i c)).map kh) _;rw[List.map_set];exact aa.put (At.kp k26 _ _ (B_ _) au) (aa.kp (s2.kp.trans k26) _ _ (dY _) as)
 ·show aa H6 ((y.ts.set i (JT (Je y i) c (vA y i c).d (vA y i c).a)).map j9) _;rw[List.map_set,eqr,et];exact aa.put (At.tup (s6 _ _ (f5 _ _ e5 (by simpa using fun z=>by rw[z,Yr] at f4; cases f4))) (dD [t0+c,t1+gr (j7 y i) (jG y i) c,t2+(c-cu (j7 y i) (jG y i) c)])) (aa.kp kp _ _ (lE _) at')
 ·exact YA.pa.keep kp fun b hb o e=>off e (fun z=>nd3 a.ds (by simp) b hb z.symm) (fun z=>nd3 a.dt (by simp) b hb z.symm)
 ·rw[eqr];exact At.tup e6 (aa.cons (At.str _) (aa.cons (At.int _) (aa.cons (At.int _) (aa.cons (At.int _) (aa.cons (At.int _) aa.nil)))))
def Yt(q:Str×Int):PyData:=.tuple [.str q.1,.int q.2]
def nu(z:Yd×List Int×List Rw)(i:Nat):Yd×List Int×List Rw:=
 let c:=z.2.1.getD i 0
 (Jd z.1 i c,match z.1.os.getD i none with
  | none=>z.2.1
  | some o=>z.2.1.set (z.1.ns.idxOf o) (z.2.1.getD (z.1.ns.idxOf o) 0+(vA z.1 i c).d),z.2.2++[vA z.1 i c])
def aW(y:Yd)(cm:List Int):Nat->Yd×List Int×List Rw
 | 0=>(y,cm,[])
 | i+1=>nu (aW y cm i) i
def oO(ns:List Str)(cs:List (Str×Int)):List Int:=ns.map fun n=>(cs.lookup n).getD 0
def qi(y:Yd)(cs:List (Str×Int)):List Rw:=(aW y (oO y.ns cs) y.ns.length).2.2
def yM(y:Yd)(cs:List (Str×Int)):Yd:={ (aW y (oO y.ns cs) y.ns.length).1 with pa:=y.pa++[qi y cs] }
theorem Wo{H:Hp}{q:Str×Int}{v:V}(h:At H (Yt q) v):∃b,v=.ref b/\H b=some (.tup [.str q.1,.int q.2]):=by
 obtain⟨b,xs,rfl,h1,h2⟩:=aY h;obtain⟨x0,_,rfl,b0,h2⟩:=aa.aJ h2;obtain⟨x1,_,rfl,b1,h2⟩:=aa.aJ h2;cases aa.fH h2;unfold At at b0 b1;subst b0 b1;exact⟨b,rfl,h1⟩
theorem Dz(ns:List Str)(cs:List (Str×Int)):(oO ns cs).length=ns.length:=by unfold oO; rw[bN]
theorem RK{ns:List Str}{l:List (Str×Int)}{q:Str×Int}{j:Nat}(nd:ns.Nodup)(hj:ns[j]?=some q.1)(hq:q.1∉l.map (·.1)):oO ns (l++[q])=(oO ns l).set j q.2:=by
 have hjl:j<ns.length:=(jF.mp hj).1
 have hn:l.lookup q.1=none:=List.lookup_eq_none_iff.mpr fun p hp=>by
  simp only[bne_iff_ne,ne_eq];intro z;exact hq (by rw[z]; exact List.mem_map_of_mem hp)
 refine List.ext_getElem? fun k=>?_;rw[List.getElem?_set,Dz];unfold oO;rw[cA,cA];by_cases e:j=k
 ·subst e;rw[bh rfl,bh hjl,hj];show some (((l++[q]).lookup q.1).getD 0)=_;rw[List.lookup_append,hn];obtain⟨q1,q2⟩:=q;simp[List.lookup]
 ·rw[aX e];cases ek:ns[k]? with
  | none=>rfl
  | some n=>
   have ne:n≠q.1:=fun z=>e (by
    rw[z,<- hj] at ek
    exact((List.getElem?_inj hjl nd).mp ek.symm))
   show some (((l++[q]).lookup n).getD 0)=some ((l.lookup n).getD 0);rw[List.lookup_append]
   have:[q].lookup n=none:=List.lookup_eq_none_iff.mpr fun p hp=>by
    rw[fV.mp hp];simpa using ne
   rw[this,Option.or_none]
structure RbI(y:Yd)(cm:List Int)(i:Nat):Prop where
 n:(aW y cm i).1.ns=y.ns
 p:(aW y cm i).1.ps=y.ps
 o:(aW y cm i).1.os=y.os
 t:(aW y cm i).1.tot=y.tot
 a:(aW y cm i).1.pa=y.pa
 l:(aW y cm i).2.1.length=cm.length
 r:(aW y cm i).2.2.length=i
theorem cH(y:Yd)(cm:List Int):∀i,RbI y cm i
 | 0=>⟨rfl,rfl,rfl,rfl,rfl,rfl,rfl⟩
 | i+1=>by
  obtain⟨h1,h2,h3,h4,h5,h6,h7⟩:=cH y cm i;refine⟨h1,h2,h3,h4,h5,?_,?_⟩
  ·show(nu (aW y cm i) i).2.1.length=_;unfold nu;dsimp only;split
   ·exact h6
   ·rw[List.length_set]; exact h6
  ·show((aW y cm i).2.2++[_]).length=_;rw[cC,h7]; rfl
theorem jD{y:Yd}{cm:List Int}(YO:dX y):∀{i:Nat},i<=y.ns.length->dX (aW y cm i).1
 | 0,_=>YO
 | i+1,h=>Xy (jD YO (Cq h)) (by rw[(cH y cm i).n]; omega)
theorem Hz{H:Hp}{ns:List Str}{vs:List V}(h:aa H (ns.map fun _=>PyData.int 0) vs):vs=(oO ns []).map V.int:=by
 have e:(ns.map fun _=>PyData.int 0)=(oO ns []).map .int:=by unfold oO; rw[xH]; rfl
 rw[e] at h;exact cF h
theorem wg(cs:List (Str×Int)):bD (cs.map Yt)=true:=bj.mpr fun d hd=>by obtain⟨x,_,rfl⟩:=dZ.mp hd; rfl
theorem Vc{cs:List (Str×Int)}{i:Nat}{q:Str×Int}(nn:(cs.map (·.1)).Nodup)(h:cs[i]?=some q):q.1∉(cs.take i).map (·.1):=fun z=>by
 have hi:=(jF.mp h).1;have hq:=(jF.mp h).2;rw[<- List.take_append_drop i cs,gJ,vh] at nn;refine nn.2.2 _ z q.1 ?_ rfl;rw[M5 hi,hq];exact dg ..
def Xc(C:Addr):Sp:=fun vs H Q _=>∃(a:Ya)(y:Yd)(l:Addr)(us:List V)(cs:List (Str×Int)),vs=[.ref a.p,.ref l]/\bM C H a y/\dX y/\H l=some (.lst us)/\aa H (cs.map Yt) us/\(cs.map (·.1)).Nodup/\(∀q∈cs,q.1∈y.ns)/\y.pa.length<500/\l∉a.own /\
 ∀p m xs H',H m=none->H p=none->p≠m->bM C H' { a with qW:=a.qW++[m] } (yM y cs)->H' p=some (.lst xs)->aa H' ((qi y cs).map vU) xs->Fr [a.ds,a.dt,a.lp] H H'->Q (.ref p) H'
theorem pY:aV ["self","comes","coming","name","come","rows","row","onward"] ["self","comes"] (aD lH):=(by walk_at "c")
theorem zp{C:Addr}(F:jL K "beat" "Yard.beat" lH f fd)(B:Bi mg)(Z:ZY K C)(bz:Ek P w K mg base k C "check_names" AU (Kd C))(gw:Ek P w K mg base k C "post_beat" ["self","name","come"] (aaf C)):bF P w K mg base iy (k+1) f fd ["self","comes"] (Xc C):=by
 refine F.ok pY (hbody:=(0:))
 refine mK h fun a y l us cs BK YA YO hl au uZ=>?_; clear h; subst BK; refine xP uZ fun nn nin pn lo' q=>?_; clear uZ;have ND:=pY.nd;refine⟨_,(aq (dq (pm bz hr (pv 0) (ak (kY (nt:=2) (N':=["name","come"]) (js:=[]) rfl (cP (pv 1)) sW.of (fun fp s' H'=>(bR (K:=K) (n:=2) rfl rfl (aB (aCN ["name","come"] 0) (aB (aCN ["name","come"] 1) bC)))) (fun fp s' H'=>gW) (fun fp s' H'=>(pv 0))) aj))) (aq (QB (i:=2) ND rfl (by walk_at "o") (nt:=1) (N':=["name"]) (js:=[]) rfl (cP (cM (K:=K) rfl (pv 0))) qU.of (fun fp s' H'=>(aCN ["name"] 0)) (fun fp s' H'=>(pv 0)) (fun fp s' H'=>ao)) (aq (gO PassesOwn.never rfl (cP (pv 1)) (ud rfl (aB (aC (i:=3)) (aB (aC (i:=4)) bC))) (aF (dN (pv 4) (xR (pv 2) (pv 3) (Io hr.units))))) (aq (aR (i:=5) (cG aj)) (aq (gO PassesOwn.never rfl (cP (cM (K:=K) rfl (pv 0))) (aC (i:=3)) (aq (aR (i:=6) (pm gw hr (pv 0) (ak (pv 3) (ak (aU (yq hr.units) (pv 2) (pv 3) (fun _ _=>rfl)) aj)))) (aq (aR (i:=7) (aU (yq hr.units) (cM (K:=K) rfl (pv 0)) (pv 3) (fun _ _=>rfl))) (aq (cN (bf vW (pv 7) ou (bc _)) (aF (T8 (Nat.lt_of_le_of_lt (Nat.add_le_add_left (by decide:1<=64) _) hr.units) (pv 2) (pv 7) (aU aP (pv 6) ao (fun _ _=>rfl)) Yb (by intros; rfl))) bI) (aF (dq (QK PySem.F.plainAttrs_list PySem.F.slot_list_append PySem.F.type_list_append eZ (pv 5) (ak (pv 6) aj)))))))) (aq (dq (QK PySem.F.plainAttrs_list PySem.F.slot_list_append PySem.F.type_list_append eZ (cM (K:=K) rfl (pv 0)) (ak (pv 5) aj))) (aF (aZ (pt (lA) B.list my (ak (pv 5) aj)))))))))),?_⟩
 ext;have lu:=au.length;rw[bN] at lu;have l5:=YO.n5
 have hcs:cs.length<=5:=by
  have:(cs.map (·.1)).length<=y.ns.length:=List.Nodup.length_le_of_subset nn fun z hz=>by
   obtain⟨q',hq',rfl⟩:=dZ.mp hz;exact nin q' hq'
  rw[bN] at this;omega
 refine Me.of (m:="check_names") (R:=fun p=>_) YA (fun _ _ _ _ _ _ _=>rfl) ?_;refine pF ((cs.map (·.1)).map .str) (fun i=>[some (.str (cs.getD i ("",0)).1),some (.int (cs.getD i ("",0)).2)]) (fun _=>rfl) (fun R hR=>by ext; exact hR) hl (by simp; omega) ∅ (rA _) ?_ ?_
 ·intro i x d H' hx hd s';have hi:i<cs.length:=by rw[<- lu]; exact(jF.mp hx).1
  have et:cs[i]?=some cs[i]:=cT hi;obtain⟨d',hd',ad⟩:=(au.mono s').get hx;rw[cA,et] at hd';cases hd';obtain⟨b,rfl,eb⟩:=Wo ad;rw[cA,cA,et] at hd;cases hd;rw[ig,et];refine⟨fun R hR=>⟨b,_,rfl,fK.of eb,rfl,?_⟩,fun R hR=>?_⟩
  ·exact hR
  ·ext;exact hR _ _ (aK.refl _) (At.str _)
 intro acc us1 H1 f1 s1 e1 a1;have:=j_ a1;subst this;refine(uw a y acc (cs.map (·.1)) ⟨rfl,YA.mono s1,e1,nn,by rw[bN]; omega,fun n hn=>by obtain⟨q',hq',rfl⟩:=dZ.mp hn; exact nin q' hq',fun H2 s2=>?_⟩)
 have s12:=s1.trans s2;have YB:=YA.mono s12;obtain⟨dx,ob⟩:=YA.ob;have ob2:=s12 _ _ ob;refine v_ y.ns (y.ns.map fun _=>PyData.int 0) (fun i=>[some ((y.ns.map V.str).getD i .non)]) (fun _=>rfl) (a:=a.lo) (fun R hR=>by ext; exact⟨_,_,_,_,_,rfl,ob2,Z.cl,Z.n2,yx ..,hR⟩) YB.lo YO.nn (by simp) (by simp) (by simp; omega) (bj.mpr fun d hd=>by obtain⟨z,_,rfl⟩:=dZ.mp hd; rfl) ?_ ?_
 ·intro i x nm d H' hx hn hd s';have ex:(y.ns.map V.str).getD i .non=x:=by rw[ig,hx]; rfl
  rw[ex];rw[cA,hn] at hx;cases hx;rw[cA,hn] at hd;cases hd;refine⟨fun R hR=>by ext; exact hR,fun R hR=>by ext; exact hR,fun R hR=>?_⟩
  ext;exact hR _ _ (aK.refl _) (At.int _)
 intro dc vz H3 fdc s3 edc az lz;have:=Hz az;subst this;have Cj:=s12.trans s3;rw[Fb];ext
 have Zo:H dc=none:=by
  cases q':H dc with
  | none=>rfl
  | some o=>rw[s12 _ _ q'] at fdc; cases fdc
 have ldc:l≠dc:=fun z=>by rw[<- z,hl] at Zo; cases Zo
 refine LK.of (Cj _ _ hl) (fun i σ H'=>∃o3 o4,σ=[some (.ref a.p),some (.ref l),some (.ref dc),o3,o4,none,none,none]/\H' dc=some (.dK (zK y.ns ((oO y.ns (cs.take i)).map V.int)))/\Fr [dc] H3 H') ⟨_,_,rfl,edc,Fr.refl _ _⟩ (fun i σ H' _ ⟨_,_,_,_,fr⟩=>fr _ _ (Cj _ _ hl) (by simpa using ldc)) ?_ ?_
 ·intro i x σ H4 hx wz; refine bG wz fun o3 o4 cL e4 fr4=>?_; clear wz; subst cL;have hi:i<cs.length:=by rw[<- lu]; exact(jF.mp hx).1
  have et:cs[i]?=some cs[i]:=cT hi;have k4:fJ H3 H4:=fr4.kp fun b hb xs z=>by rw[fV.mp hb,edc] at z; cases z
  have Zv:=aa.kp (Cj.kp.trans k4) _ _ (wg _) au;obtain⟨d',hd',ad⟩:=Zv.get hx;rw[cA,et] at hd';cases hd';obtain⟨b,rfl,eb⟩:=Wo ad;refine(jM b _ ⟨rfl,fK.of eb,rfl,?_⟩);ext;obtain⟨j,hj⟩:=Kp (nin _ (dC et));refine⟨dc,_,rfl,vQ.z e4 YO.nn hj (by rw[bN,Dz]) ∅,_,_,rfl,?_,fr4.trans (Fr.put (by simp))⟩
  rw[aA,cU et,RK YO.nn hj (Vc nn et),List.map_set]
 intro σ H4 LC; refine bG LC fun o3 o4 cL e4 fr4=>?_; clear LC; subst cL;rw[lu,rJ] at e4;have lcm:(oO y.ns cs).length=y.ns.length:=Dz ..;have eR:qi y cs=(aW y (oO y.ns cs) y.ns.length).2.2:=rfl;have eY:yM y cs={ (aW y (oO y.ns cs) y.ns.length).1 with pa:=y.pa++[qi y cs] }:=rfl
 generalize oO y.ns cs=cm at e4 lcm eR eY;ext;refine⟨⋯,fun m H5 fm s5 em=>?_⟩
 have V1:aK H H4:=fun b o z=>fr4 _ _ (Cj _ _ z) (by simp; intro e; rw[e,Zo] at z; cases z)
 have s05:=V1.trans s5
 have fm0:H m=none:=by
  cases q':H m with
  | none=>rfl
  | some o=>rw[V1 _ _ q'] at fm; cases fm
 have mdc:m≠dc:=fun z=>by rw[z,e4] at fm; cases fm
 have Y5:=YA.mono s05
 have Gz:∀b∈a.own,b≠dc/\b≠m:=fun b hb=>by
  obtain⟨o,e,_⟩:=YA.al b hb;exact⟨fun z=>(by rw[z,Zo] at e; cases e),fun z=>(by rw[z,fm0] at e; cases e)⟩
 rw[Fb];ext;obtain⟨dx5,ob5⟩:=Y5.ob;refine(BW _ _ _ _ _ ⟨rfl,ob5,Z.cl,Z.n2,yx ..,?_⟩);have nsl:(y.ns.map V.str).length=y.ns.length:=bN ..;refine LK.of Y5.lo (fun i σ H'=>∃o3 o4 o6 o7 xs,σ=[some (.ref a.p),some (.ref l),some (.ref dc),o3,o4,some (.ref m),o6,o7]/\bM C H' a (aW y cm i).1/\H' dc=some (.dK (zK y.ns ((aW y cm i).2.1.map V.int)))/\H' m=some (.lst xs)/\aa H' ((aW y cm i).2.2.map vU) xs/\Fr [a.ds,a.dt,dc,m] H5 H') ⟨_,_,_,_,[],rfl,Y5,s5 _ _ e4,em,aa.nil,Fr.refl _ _⟩ (fun i σ H' _ ⟨_,_,_,_,_,_,Y',_⟩=>by have:=Y'.lo; rw[(cH y cm i).n] at this; exact this) ?_ ?_
 ·intro i x σ H6 hx El; refine mK El fun o3 o4 o6 o7 xs BK Y6 e6 em6 ax fr6=>?_; clear El; subst BK;rw[cA] at hx;cases hn:y.ns[i]? with
  | none=>rw[hn] at hx; cases hx
  | some n=>
  rw[hn] at hx;cases hx;have hi:i<y.ns.length:=(jF.mp hn).1;obtain⟨r1,r2,r3,r4,r5,r6,r7⟩:=cH y cm i;have YO6:dX (aW y cm i).1:=jD YO (nY hi);have abh:aW y cm (i+1)=nu (aW y cm i) i:=rfl;rw[abh];generalize aW y cm i=z at Y6 e6 ax YO6 r1 r2 r3 r4 r5 r6 r7 ⊢;obtain⟨zy,zc,zr⟩:=z;dsimp only at r1 r2 r3 r4 r5 r6 r7 Y6 e6 ax YO6;have ec:zc[i]?=some (zc.getD i 0):=by rw[ig,cT (by omega:i<zc.length)]; rfl
  ext;refine Me.of (m:="post_beat") (R:=fun p=>_) Y6 (fun _ _ _ _ _ _ _=>rfl) ?_;refine⟨dc,.int (zc.getD i 0),rfl,m8.z e6 YO.nn hn (by rw[bN]; omega) (by rw[cA,ec]; rfl),?_⟩
  refine(BW a zy i n (zc.getD i 0) ⟨rfl,Y6,YO6,by rw[r1]; exact hn,fun v H7 Y7 Wg av=>?_⟩)
  have Su:a.ds∈a.own/\a.dt∈a.own:=by unfold Ya.own; simp
  have dcO:dc∉[a.ds,a.dt]:=by simp; exact⟨Ne.symm (Gz _ Su.1).1,Ne.symm (Gz _ Su.2).1⟩
  have mO:m∉[a.ds,a.dt]:=by simp; exact⟨Ne.symm (Gz _ Su.1).2,Ne.symm (Gz _ Su.2).2⟩
  have e7:=Wg _ _ e6 dcO;have em7:=Wg _ _ em6 mO;have k67:fJ H6 H7:=Y6.kp (Wg.sub fun b hb=>.inl (by simp at hb; rcases hb with rfl | rfl; exact Su.1; exact Su.2))
  have ax7:=aa.kp k67 _ _ (jC _) ax;have lxs:=ax.length;rw[bN,r7] at lxs;have l2:=YO.lo;have eo:y.os[i]?=some y.os[i]:=cT ∅
  have eo':zy.os.getD i none=y.os[i]:=by rw[r3,ig,eo]; rfl
  have dn7:H7 a.dn=some (.dK (zK y.ns (y.os.map qX))):=by
   have:=Y7.dn;rw[show(Jd zy i (zc.getD i 0)).ns=zy.ns from rfl,show(Jd zy i (zc.getD i 0)).os=zy.os from rfl,r1,r3] at this;exact this
  have helper:∀(H8:Hp) (cn:List Int),H8 dc=some (.dK (zK y.ns (cn.map V.int)))->Fr [dc] H7 H8->H8 m=some (.lst xs)/\(bM C (upd H8 m (.lst (xs++[v]))) a (Jd zy i (zc.getD i 0))/\upd H8 m (.lst (xs++[v])) dc=some (.dK (zK y.ns (cn.map V.int)))/\upd H8 m (.lst (xs++[v])) m=some (.lst (xs++[v]))/\aa (upd H8 m (.lst (xs++[v]))) ((zr++[vA zy i (zc.getD i 0)]).map vU) (xs++[v])/\Fr [a.ds,a.dt,dc,m] H5 (upd H8 m (.lst (xs++[v])))):=fun H8 cn e8 Zm=>by
   have Wk:=Zm _ _ em7 (by simpa using mdc)
   have k8:fJ H7 H8:=Zm.kp fun b hb xs z=>by rw[fV.mp hb,e7] at z; cases z
   have k9:fJ H8 (upd H8 m (.lst (xs++[v]))):=fJ.putL Wk;have k79:=k8.trans k9;refine⟨Wk,Y7.keep k79 (fun b hb o e=>by rw[aH (Gz b hb).2]; exact Zm _ _ e (by simpa using(Gz b hb).1)),by rw[aH mdc.symm]; exact e8,aA,?_,?_⟩
   ·rw[gJ];exact(aa.kp k79 _ _ (jC _) ax7).snoc (At.kp k79 _ _ (rw_noL _) av)
   ·exact fr6.trans ((Wg.sub fun b hb=>.inl (by simp at hb ⊢; rcases hb with h | h <;> simp[h])).trans ((Zm.sub fun b hb=>.inl (by rw[fV.mp hb]; simp)).trans (Fr.put (by simp))))
  have stp:nu (zy,zc,zr) i=(Jd zy i (zc.getD i 0),match y.os[i] with
   | none=>zc
   | some o=>zc.set (y.ns.idxOf o) (zc.getD (y.ns.idxOf o) 0+(vA zy i (zc.getD i 0)).d),zr++[vA zy i (zc.getD i 0)]):=by
   unfold nu;dsimp only;rw[eo',r1]
  rw[stp];obtain⟨dx7,ob7⟩:=Y7.ob;have dgo:=m8.z dn7 YO.nn hn (by rw[bN]; omega) (v:=qX y.os[i]) (by rw[cA,eo]; rfl)
  refine(BW _ _ _ _ _ ⟨rfl,ob7,Z.cl,Z.n4,JD ..,jM _ _ ⟨rfl,dgo,trivial,?_⟩⟩);cases how:y.os[i] with
  | none=>
   rw[aX (by simp[qX])]
   obtain⟨Wk,h8⟩:=helper H7 zc e7 (Fr.refl _ _);exact⟨.inl ⟨rfl,_,bT.of Wk⟩,Eg m xs v ⟨rfl,rfl,Wk,aQ ∅,BW _ _ _ _ _ ⟨rfl,h8⟩⟩⟩
  | some o=>
   rw[bh (by simp[qX])]
   have oin:o∈y.ns:=Kq (YO.og i o (by rw[eo,how]))
   have hj:y.ns.idxOf o<y.ns.length:=List.idxOf_lt_length_of_mem oin;have ej:y.ns[y.ns.idxOf o]?=some o:=by rw[cT hj,List.getElem_idxOf hj]
   have ecj:zc[y.ns.idxOf o]?=some (zc.getD (y.ns.idxOf o) 0):=by rw[ig,cT (by omega:y.ns.idxOf o<zc.length)]; rfl
   refine bG (aY av) fun b ys cL hb1 hb2=>?_; subst cL;have ze:=aa.aJ hb2; clear hb2; refine bG ze fun x0 _ cL b0 hb2=>?_; clear ze; subst cL;have ze:=aa.aJ hb2; clear hb2; refine bG ze fun x1 _ cL b1 hb2=>?_; clear ze; subst cL;have ze:=aa.aJ hb2; clear hb2; refine bG ze fun x2 _ cL b2 hb2=>?_; clear ze; subst cL;have ex2:x2=.int (vA zy i (zc.getD i 0)).d:=by unfold At at b2; exact b2
   subst ex2;refine⟨dc,.int (zc.getD (y.ns.idxOf o) 0),rfl,m8.z e7 YO.nn ej (by rw[bN]; omega) (by rw[cA,ecj]; rfl),Ix.tup hb1 (a_ (j:=2) rfl) ⟨_,_,rfl,rfl,_,vQ.z e7 YO.nn ej (by rw[bN]; omega) ∅,?_⟩⟩
   obtain⟨Wk,h8⟩:=helper (upd H7 dc (.dK (zK y.ns ((zc.map V.int).set (y.ns.idxOf o) (.int (zc.getD (y.ns.idxOf o) 0+(vA zy i (zc.getD i 0)).d)))))) (zc.set (y.ns.idxOf o) (zc.getD (y.ns.idxOf o) 0+(vA zy i (zc.getD i 0)).d)) (by rw[aA,List.map_set]) (Fr.put (by simp))
   exact⟨.inl ⟨rfl,_,bT.of Wk⟩,Eg m xs _ ⟨rfl,rfl,Wk,aQ ∅,BW _ _ _ _ _ ⟨rfl,h8⟩⟩⟩
 ·intro σ H6 Hw; refine mK Hw fun o3 o4 o6 o7 xs BK Y6 e6 em6 ax fr6=>?_; clear Hw; subst BK;rw[nsl] at Y6 e6 ax;rw[<- eR] at ax;ext;have RI:=cH y cm y.ns.length;have pl:=Y6.pa.length;rw[RI.a] at pl;obtain⟨dx6,ob6⟩:=Y6.ob;have lpO:a.lp∈a.own:=by unfold Ya.own; simp
  refine(BW _ _ _ _ _ ⟨rfl,ob6,Z.cl,Z.n7,Dt ..,.inl ⟨rfl,_,bT.of Y6.lp⟩,Eg a.lp _ _ ⟨rfl,rfl,Y6.lp,aQ (by rw[bN]; omega),?_⟩⟩)
  have lm:m≠a.lp:=Ne.symm (Gz _ lpO).2;have k7:fJ H6 (upd H6 a.lp (.lst (a.qW.map V.ref++[.ref m]))):=fJ.putL Y6.lp;have f7:Fr [a.lp] H6 (upd H6 a.lp (.lst (a.qW.map V.ref++[.ref m]))):=Fr.put (by simp)
  have e7:upd H6 a.lp (.lst (a.qW.map V.ref++[.ref m])) a.lp=some (.lst (a.qW.map V.ref++[.ref m])):=aA;generalize upd H6 a.lp (.lst (a.qW.map V.ref++[.ref m]))=H7 at k7 f7 e7 ⊢;have em7:=f7 _ _ em6 (by simpa using lm)
  refine⟨m,xs,rfl,em7,fun p fp=>?_⟩;have s8:=aO fp (HO.lst xs);have e8:upd H7 p (.lst xs) p=some (.lst xs):=aA;generalize upd H7 p (.lst xs)=H8 at s8 e8 ⊢;have k68:fJ H6 H8:=k7.trans s8.kp
  have Zm:Fr [a.ds,a.dt,a.lp] H H8:=fun b o z nb=>by
   simp only[bB,dM,or_false,not_or] at nb;have h5:=s05 _ _ z
   have h6:=fr6 _ _ h5 (by
    simp only[bB,dM,or_false,not_or]
    exact⟨nb.1,nb.2.1,fun e=>(by rw[e,Zo] at z; cases z),fun e=>(by rw[e,fm0] at z; cases z)⟩)
   exact s8 _ _ (f7 _ _ h6 (by simpa using nb.2.2))
  have fp0:H p=none:=by
   cases q':H p with
   | none=>rfl
   | some o=>
    have hb:H5 p=some o:=s05 _ _ q';by_cases c1:p∈[a.ds,a.dt,a.lp]
    ·exfalso;simp only[bB,dM,or_false] at c1;rcases c1 with h | h | h
     ·obtain⟨o',e',_⟩:=Y6.al a.ds (by unfold Ya.own; simp)
      rw[h,f7 _ _ e' (by simp; intro z; have:=YA.nd; unfold Ya.own at this; have:=(vh.mp this).1; simp[z] at this)] at fp
      cases fp
     ·obtain⟨o',e',_⟩:=Y6.al a.dt (by unfold Ya.own; simp)
      rw[h,f7 _ _ e' (by simp; intro z; have:=YA.nd; unfold Ya.own at this; have:=(vh.mp this).1; simp[z] at this)] at fp
      cases fp
     ·rw[h,e7] at fp; cases fp
    ·exfalso;simp only[bB,dM,or_false,not_or] at c1
     have h6:=fr6 _ _ hb (by
      simp only[bB,dM,or_false,not_or]
      exact⟨c1.1,c1.2.1,fun e=>(by rw[e,Zo] at q'; cases q'),fun e=>(by rw[e,fm0] at q'; cases q')⟩)
     rw[f7 _ _ h6 (by simpa using c1.2.2)] at fp
     cases fp
  have pm:p≠m:=fun z=>by rw[z,em7] at fp; cases fp
  have ax8:=aa.kp k68 _ _ (jC _) ax;have nd:=YA.nd;unfold Ya.own at nd;obtain⟨Sh,nd2,nd3⟩:=vh.mp nd;have af3:∀b∈a.own,b≠a.lp->∀o,H6 b=some o->H8 b=some o:=fun b hb n o e=>s8 _ _ (f7 _ _ e (by simpa using n))
  have V9:a.p≠a.lp/\a.lo≠a.lp/\a.dp≠a.lp/\a.dn≠a.lp/\a.ds≠a.lp/\a.dt≠a.lp:=by
   simp only[km,bB,dM,not_or,or_false] at Sh;exact⟨Sh.1.2.2.2.2.2,Sh.2.1.2.2.2.2,Sh.2.2.1.2.2.2,Sh.2.2.2.1.2.2,Sh.2.2.2.2.1.2,Sh.2.2.2.2.2.1⟩
  have kO:∀{b:Addr}{o:HO},H6 b=some o->b≠a.lp->H8 b=some o:=fun {b o} e n=>s8 _ _ (f7 _ _ e (by simpa using n))
  obtain⟨v3,c3,g3⟩:=Y6.dp;obtain⟨v5,c5,g5⟩:=Y6.ds;obtain⟨v6,c6,g6⟩:=Y6.dt;refine q p m xs H8 fm0 fp0 pm ?_ e8 ax8 Zm;rw[eY];refine⟨⟨dx6,kO ob6 V9.1⟩,kO Y6.lo V9.2.1,⟨v3,kO c3 V9.2.2.1,aa.kp k68 _ _ (fY _) g3⟩,kO Y6.dn V9.2.2.2.1,⟨v5,kO c5 V9.2.2.2.2.1,aa.kp k68 _ _ (dY _) g5⟩,⟨v6,kO c6 V9.2.2.2.2.2,aa.kp k68 _ _ (lE _) g6⟩,?_,?_,?_⟩
  ·show H8 a.lp=some (.lst ((a.qW++[m]).map V.ref));rw[gJ];exact s8 _ _ e7
  ·show bU H8 (a.qW++[m]) (y.pa++[qi y cs]);have P6:=Y6.pa;rw[RI.a] at P6;exact bU.snoc (P6.keep k68 fun b hb o e=>kO e (fun z=>nd3 a.lp (by simp) b hb z.symm)) (s8 _ _ em7) ax8
  ·show([a.p,a.lo,a.dp,a.dn,a.ds,a.dt,a.lp]++(a.qW++[m])).Nodup;rw[<- FN,vh];exact⟨nd,by simp,fun u hu v hv e=>by rw[fV.mp hv] at e; exact(Gz u hu).2 e⟩
local macro_rules | `(tactic| ext)=>`(tactic| simp only[_L.start,gH,vd,fU,mX,Nat.reduceAdd,Nat.reduceSub,List.replicate,Fy,vg,qF,
 lF,yQ,Ex,wK,uE,qu,dh,uH,jE,lJ,jc,lN,if_true,if_false,tY,Fv,xM,lM,lL,jW,qz,qD,nU,lO,lQ,jd,lK,qC,xr,tC,Ia,VG,IK,rI,rU,q_,Ff,VL,Ez,uJ,H_,wL,Pu,iU,Ov,iz,qt,tB,nj,VJ,jy,uA,GX,Ey,EY,HY,uG,uy,Tt,Mz,Fe,uD,uI,U6,uF,E_,Ze,Zb,Zc,Zd,Mx,tK,qp,Y4,z9,Y9,Mh,zY,Mm,YZ,Mi,Ml,Mg,zZ,Mj,Ai,Aj,Fd,Fq,mz,sZ,rm,xm,iT,Ie,O9])
theorem mH:aV AW AW (aD jb):=(by walk_at "c")
theorem vH{C:Addr}(F:jL K "counts" "Yard.counts" jb f fd)(Z:ZY K C)(bz:Ek P w K mg base k C "check_names" AU (Kd C)):bF P w K mg base iy (k+1) f fd AW (Fi C gT):=by
 refine F.ok mH (hbody:=(0:))
 refine mK h fun a y i n d BK YA YO hn hd q=>?_; clear h; subst BK;have ND:=mH.nd;refine⟨_,(aq (dq (pm bz hr (pv 0) (ak (cG (ak (pv 1) aj)) aj))) (aF (aZ (aU (yq hr.units) (cM (K:=K) rfl (pv 0)) (pv 1) (fun _ _=>rfl))))),?_⟩;ext;refine Me.of (m:="check_names") (R:=fun p=>_) YA (fun _ _ _ _ _ _ _=>rfl) ?_;refine⟨⋯,fun p H1 f1 s1 e1=>?_⟩
 refine⟨a,y,p,[n],rfl,YA.mono s1,e1,by simp,by simp,by intro m hm; rw[fV.mp hm]; exact dC hn,fun H2 s2=>?_⟩
 have YB:=YA.mono (s1.trans s2);obtain⟨us,ed,av⟩:=YB.dt;obtain⟨v,ev,aw⟩:=av.nth hd;have lv:=av.length;have l1:=YO.lt;rw[bN] at lv;obtain⟨dx,ob⟩:=YB.ob;exact⟨_,_,_,_,_,rfl,ob,Z.cl,Z.n6,qM ..,_,v,rfl,m8.z ed YO.nn hn ∅ ev,q _ _ (s1.trans s2) aw⟩
theorem TV.of{H:Hp}{l b:Addr}{xs zs:List V}{Q:VK}(h1:H l=some (.lst xs))(h2:H b=some (.lst zs))(hn:xs.length+zs.length<=1000)(q:∀p H',H p=none->aK H H'->H' p=some (.lst (xs++zs))->Q (.ref p) H'):TV (.ref l) (.ref b) H Q:=
 ⟨l,b,xs,zs,rfl,rfl,h1,h2,nY (aQ hn),fun p fp=>q p _ fp (aO fp _) aA⟩
local macro_rules | `(tactic| ext)=>`(tactic| simp only[_L.start,gH,vd,fU,mX,Nat.reduceAdd,Nat.reduceSub,List.replicate,Fy,vg,qF,
 lF,yQ,Ex,wK,uE,qu,dh,uH,jE,lJ,jc,lN,if_true,if_false,tY,Fv,xM,lM,lL,jW,qz,qD,nU,lO,lQ,jd,lK,qC,xr,tC,Ia,VG,IK,rI,rU,q_,Ff,VL,Ez,uJ,H_,wL,Pu,iU,Ov,iz,qt,tB,nj,VJ,jy,uA,GX,Ey,EY,HY,uG,uy,Tt,Mz,Fe,uD,uI,U6,uF,E_,Ze,Zb,Zc,Zd,Mx,tK,qp,Y4,z9,Y9,Mh,zY,Mm,YZ,Mi,Ml,Mg,zZ,Mj,Ai,Aj,Fd,Fq,mz,sZ,rm,xm,iT])
theorem Tq{H H':Hp}{a:Addr}{n:Nat}(t:Tp H a n)(s:SX a H H'):fJ H H':=fun c xs z=>s.get (t.neT z) z
theorem sxF{a p:Addr}{H H':Hp}(s:SX a H H')(pa:p≠a)(h:H' p=none):H p=none:=by
 cases q:H p with
 | none=>rfl
 | some o=>rw[s.get pa q] at h; cases h
theorem Pk{zs:List (List Nat)}(h:zs.Nodup):(zs.map tx).Nodup:=by
 unfold List.Nodup;rw[List.pairwise_map];exact h.imp fun h e=>h (WY e)
structure CmG(ns:List Str)(cs:List (Str×Int)):Prop where
 nd:(cs.map (·.1)).Nodup
 ni:∀c∈cs,c.1∈ns
 l:cs.length<=5
 b:∀c∈cs,0<=c.2/\c.2<=1000000000000
theorem RZ{y:Yd}{cs:List (Str×Int)}(YO:dX y)(h:y.pa.length<500):dX (yM y cs):=by
 have R:=jD (cm:=oO y.ns cs) YO (bw _);have F:=cH y (oO y.ns cs) y.ns.length;have e:yM y cs={ (aW y (oO y.ns cs) y.ns.length).1 with pa:=y.pa++[qi y cs] }:=rfl
 rw[e];have l:=F.r;refine { R with pn:=by show(y.pa++[qi y cs]).length<=500; rw[cC]; simp; omega,pl:=fun r hr=>?_ }
 rcases d_.mp hr with z | z
 ·exact YO.pl r z
 ·rw[fV.mp z];have:=YO.n5;show(aW y (oO y.ns cs) y.ns.length).2.2.length<=5;omega
def SD:Nat->PyData->Prop
 | 0,_=>False
 | n+1,d=>(∃i,d=.int i)\/d=.none\/(∃t,d=.str t/\PyData.canLay0 (.str t)=true)\/(∃ds,d=.tuple ds/\ds.length<=1000/\∀e∈ds,SD n e)\/∃ds,d=.list ds/\ds.length<=1000/\∀e∈ds,SD n e
theorem SD.int{n:Nat}(i:Int):SD (n+1) (.int i):=.inl ⟨i,rfl⟩
theorem SD.str{n:Nat}{t:Str}(h:PyData.canLay0 (.str t)=true):SD (n+1) (.str t):=.inr (.inr (.inl ⟨t,rfl,h⟩))
theorem SD.tup{n:Nat}{ds:List PyData}(h:ds.length<=1000)(ha:∀e∈ds,SD n e):SD (n+1) (.tuple ds):=.inr (.inr (.inr (.inl ⟨ds,rfl,h,ha⟩)))
theorem SD.lst{n:Nat}{ds:List PyData}(h:ds.length<=1000)(ha:∀e∈ds,SD n e):SD (n+1) (.list ds):=.inr (.inr (.inr (.inr ⟨ds,rfl,h,ha⟩)))
theorem SD.ints{n:Nat}{l:List Int}(h:l.length<=1000):SD (n+2) (.tuple (l.map .int)):=SD.tup (by rw[bN]; exact h) fun e he=>by obtain⟨i,_,rfl⟩:=dZ.mp he; exact SD.int i
theorem SD.stn{n:Nat}{st:gD}(h:Ht st):SD (n+4) (kh st):=SD.tup (by show 6<=1000; decide) fun e he=>by
 simp only[bB,dM,or_false] at he;rcases he with rfl | rfl | rfl | rfl | rfl | rfl
 ·exact SD.int _
 ·exact SD.int _
 ·exact SD.ints (by rw[h.c]; decide)
 ·exact SD.int _
 ·exact SD.int _
 ·exact SD.tup (by rw[bN,h.u]; decide) fun e he=>by
   obtain⟨u,hu,rfl⟩:=dZ.mp he;exact SD.ints (by rw[h.l u hu]; decide)
theorem SD.data:∀(n:Nat)(d:PyData),SD n d->PyData.hasDict d=false/\PyData.canLay0 d=true/\PyData.depth d<=n
 | 0,_,h=>h.elim
 | n+1,d,h=>by
  have all:∀ds:List PyData,(∀e∈ds,SD n e)->PyData.hasDictAll ds=false/\PyData.canLayAll0 ds=true/\PyData.depthAll ds<=n:=fun ds=>by
   induction ds with
   | nil=>exact fun _=>⟨rfl,rfl,gC _⟩
   | cons e r ih=>
    intro ha;obtain⟨h1,h2,h3⟩:=ih fun e he=>ha e (cI _ he);obtain⟨k1,k2,k3⟩:=SD.data n e (ha e dg);refine⟨?_,?_,?_⟩
    ·unfold PyData.hasDictAll; rw[k1,h1]; rfl
    ·unfold PyData.canLayAll0; rw[k2,h2]; rfl
    ·unfold PyData.depthAll; exact Nat.max_le.mpr ⟨k3,h3⟩
  rcases h with⟨i,rfl⟩ | rfl | ⟨t,rfl,hc⟩ | ⟨ds,rfl,hn,hds⟩ | ⟨ds,rfl,hn,hds⟩
  ·exact⟨rfl,rfl,gC _⟩
  ·exact⟨rfl,rfl,gC _⟩
  ·exact⟨rfl,hc,gC _⟩
  ·obtain⟨h1,h2,h3⟩:=all ds hds;exact⟨by unfold PyData.hasDict; exact h1,by unfold PyData.canLay0; exact h2,by unfold PyData.depth; omega⟩
  ·obtain⟨h1,h2,h3⟩:=all ds hds;exact⟨by unfold PyData.hasDict; exact h1,by unfold PyData.canLay0; exact h2,by unfold PyData.depth; omega⟩
theorem Pz{l:List Nat}(h:∀c∈l,c<128):PyData.strOk (tx l)=true:=by
 show l.toArray.all (· < 0x110000)=true;simp only[List.all_toArray,pK,decide_eq_true_eq];intro c hc;have:=h c hc;omega
theorem dX.str{y:Yd}(h:dX y){n:Str}(hn:n∈y.ns):PyData.strOk n=true:=by
 obtain⟨cs,rfl,hc⟩:=h.ng n hn;exact Pz fun c hc'=>by have:=(hc.g c hc').2; omega
theorem Qz{H:Hp}{x:eO}{v:V}(h:At H (gM x) v):∃a b c d,v=.ref a/\H a=some (.tup [.int x.p,.int x.m,.ref b,.int x.a,.int x.e,.ref c,.ref d])/\H b=some (.tup [.int x.lo,.int x.hi])/\At H (.tuple [.int x.u,.int x.d]) (.ref c)/\At H (nQ x.ir) (.ref d):=by
 obtain⟨a,xs,rfl,h1,h2⟩:=aY h;obtain⟨x0,_,rfl,b0,h2⟩:=aa.aJ h2;obtain⟨x1,_,rfl,b1,h2⟩:=aa.aJ h2;obtain⟨x2,_,rfl,b2,h2⟩:=aa.aJ h2;obtain⟨x3,_,rfl,b3,h2⟩:=aa.aJ h2;obtain⟨x4,_,rfl,b4,h2⟩:=aa.aJ h2;obtain⟨x5,_,rfl,b5,h2⟩:=aa.aJ h2;obtain⟨x6,_,rfl,b6,h2⟩:=aa.aJ h2;cases aa.fH h2;unfold At at b0 b1 b3 b4;subst b0 b1 b3 b4;obtain⟨b,ys,rfl,g1,g2⟩:=aY b2;obtain⟨c,zs,rfl,_,_⟩:=aY b5;obtain⟨d,ws,rfl,_,_⟩:=aY b6;obtain⟨y0,_,rfl,k0,g2⟩:=aa.aJ g2;obtain⟨y1,_,rfl,k1,g2⟩:=aa.aJ g2;cases aa.fH g2;unfold At at k0 k1;subst k0 k1;exact⟨a,b,c,d,rfl,h1,g1,b5,b6⟩
structure abD(C:Addr)(H:Hp)(zs:List (Ya×Yd)):Prop where
 at_:∀z∈zs,bM C H z.1 z.2
 dj:∀(i j:Nat)(z z':Ya×Yd),zs[i]?=some z->zs[j]?=some z'->i≠j->∀c∈z.1.own,c∉z'.1.own
def aaI(zs:List (Ya×Yd)):List Addr:=zs.flatMap fun z=>[z.1.dp,z.1.dn]
def Hr(t s:List Int):List Int:=List.zipWith (· + ·) t s
def lift(ts0:List (List Int))(j8:List (List Rw))(y:Yd):Yd:={ y with ts:=List.zipWith Hr ts0 y.ts,pa:=j8++y.pa }
structure T0(ts0:List (List Int))(m:Nat):Prop where
 l:ts0.length=m
 g:∀t∈ts0,t.length=3
theorem UG{t:List Int}(h:t.length=3):∃a b c,t=[a,b,c]:=match t,h with
 | [a,b,c],_=>⟨a,b,c,rfl⟩
theorem S6{ts0 ts:List (List Int)}{i:Nat}{s:List Int}:List.zipWith Hr ts0 (ts.set i s)=(List.zipWith Hr ts0 ts).set i (Hr (ts0.getD i []) s):=by
 induction ts0 generalizing ts i with
 | nil=>simp
 | cons t ts0 ih=>
  cases ts with
  | nil=>simp
  | cons u ts=>
   cases i with
   | zero=>rfl
   | succ i=>
    simp only[List.set_cons_succ,List.zipWith_cons_cons];rw[ih];rfl
theorem Uj{ts0:List (List Int)}{j8:List (List Rw)}{y:Yd}{i:Nat}{c:Int}(T:T0 ts0 y.ns.length)(YO:dX y)(hi:i<y.ns.length):Jd (lift ts0 j8 y) i c=lift ts0 j8 (Jd y i c):=by
 have l1:=YO.lt;have l0:=T.l;have et:y.ts[i]?=some y.ts[i]:=cT ∅
 have e0:ts0[i]?=some ts0[i]:=cT ∅
 obtain⟨a,b,d,e⟩:=UG (YO.tg _ (mZ (show i<y.ts.length by omega)))
 obtain⟨a',b',d',e'⟩:=UG (T.g _ (mZ (show i<ts0.length by omega)))
 have h1:Je y i=[a,b,d]:=by unfold Je; rw[ig,et,e]; rfl
 have h2:ts0.getD i []=[a',b',d']:=by rw[ig,e0,e']; rfl
 have h3:Je (lift ts0 j8 y) i=[a'+a,b'+b,d'+d]:=by
  unfold Je lift;dsimp only;rw[ig,List.getElem?_zipWith,e0,et,e,e']; rfl
 have h4:∀u v w:Int,JT (Je (lift ts0 j8 y) i) u v w=Hr (ts0.getD i []) (JT (Je y i) u v w):=fun u v w=>by
  rw[h1,h2,h3];unfold JT Hr;simp[Int.add_assoc]
 unfold Jd;rw[h4];show({ lift ts0 j8 y with ss:=_,ts:=_ }:Yd)=lift ts0 j8 _
 unfold lift;dsimp only;rw[S6];rfl
theorem run_lift{ts0:List (List Int)}{j8:List (List Rw)}{y:Yd}{cm:List Int}(T:T0 ts0 y.ns.length)(YO:dX y):∀i,i<=y.ns.length->aW (lift ts0 j8 y) cm i=(lift ts0 j8 (aW y cm i).1,(aW y cm i).2.1,(aW y cm i).2.2)
 | 0,_=>rfl
 | i+1,h=>by
  have ih:=run_lift (j8:=j8) (cm:=cm) T YO i (Cq h);have F:=cH y cm i;have e:aW (lift ts0 j8 y) cm (i+1)=nu (aW (lift ts0 j8 y) cm i) i:=rfl;have e':aW y cm (i+1)=nu (aW y cm i) i:=rfl;rw[e,e',ih];have hp:=Uj (j8:=j8) (c:=(aW y cm i).2.1.getD i 0) (i:=i) (y:=(aW y cm i).1) (by rw[F.n]; exact T) (jD YO (Cq h)) (by rw[F.n]; omega)
  unfold nu;dsimp only;rw[hp];rfl
theorem Vn{ts0:List (List Int)}{j8:List (List Rw)}{y:Yd}{cs:List (Str×Int)}(T:T0 ts0 y.ns.length)(YO:dX y):qi (lift ts0 j8 y) cs=qi y cs/\yM (lift ts0 j8 y) cs=lift ts0 j8 (yM y cs):=by
 have h:=run_lift (j8:=j8) (cm:=oO y.ns cs) T YO y.ns.length (bw _)
 have h1:qi (lift ts0 j8 y) cs=qi y cs:=by
  show(aW (lift ts0 j8 y) (oO y.ns cs) y.ns.length).2.2=_;rw[h]; rfl
 refine⟨h1,?_⟩;show({ (aW (lift ts0 j8 y) (oO y.ns cs) y.ns.length).1 with pa:=(j8++y.pa)++[qi (lift ts0 j8 y) cs] }:Yd)=_
 rw[h,h1];unfold lift yM;dsimp only;rw[FN]
theorem Wr{y:Yd}{cs:List (Str×Int)}:(yM y cs).ns=y.ns:=(cH y (oO y.ns cs) y.ns.length).n
theorem Yx{y:Yd}{cs:List (Str×Int)}:(yM y cs).tot=y.tot:=(cH y (oO y.ns cs) y.ns.length).t
theorem Wq{y:Yd}{cs:List (Str×Int)}:(yM y cs).pa=y.pa++[qi y cs]:=rfl
theorem V2{y:Yd}{cm:List Int}:∀i,i<=y.ns.length->∀r∈(aW y cm i).2.2,r.n∈y.ns
 | 0,_,r,hr=>by simp[aW] at hr
 | i+1,h,r,hr=>by
  have e':aW y cm (i+1)=nu (aW y cm i) i:=rfl;rw[e'] at hr;unfold nu at hr;dsimp only at hr;rcases d_.mp hr with z | z
  ·exact V2 i (Cq h) r z
  ·rw[fV.mp z];unfold vA;dsimp only;rw[(cH y cm i).n,ig,cT (show i<y.ns.length by omega)]
   exact mZ _
theorem abA{y:Yd}{cs:List (Str×Int)}:∀r∈qi y cs,r.n∈y.ns:=V2 _ (bw _)
theorem SD.rw{r:Rw}(h:PyData.strOk r.n=true):SD 2 (vU r):=SD.tup (by show 5<=1000; decide) fun e he=>by
 simp only[bB,dM,or_false] at he;rcases he with rfl | rfl | rfl | rfl | rfl
 ·exact SD.str h
 all_goals exact SD.int _
def Ss(rs:List Rw):PyData:=.list (rs.map vU)
theorem SD.ln{rs:List Rw}(h:∀r∈rs,PyData.strOk r.n=true)(l:rs.length<=1000):SD 3 (Ss rs):=SD.lst (by rw[bN]; exact l) fun e he=>by
 obtain⟨r,hr,rfl⟩:=dZ.mp he;exact SD.rw (h r hr)
theorem SD.lns{pa:List (List Rw)}(h:∀rs∈pa,∀r∈rs,PyData.strOk r.n=true)(l:pa.length<=1000)(l':∀rs∈pa,rs.length<=1000):SD 4 (.list (pa.map Ss)):=SD.lst (by rw[bN]; exact l) fun e he=>by
 obtain⟨r,hr,rfl⟩:=dZ.mp he;exact SD.ln (h r hr) (l' r hr)
theorem bU.R1{H:Hp}:∀{ls:List Addr}{rs:List (List Rw)},bU H ls rs->aa H (rs.map Ss) (ls.map V.ref)
 | [],[],_=>aa.nil
 | l::ls,r::rs,h=>by
  obtain⟨⟨xs,e,a⟩,h2⟩:=h;exact aa.cons (by unfold Ss At; exact⟨l,xs,rfl,e,a⟩) (bU.R1 h2)
 | [],_::_,h=>h.elim
 | _::_,[],h=>h.elim
theorem u_{a b:TS}{D:Ends}{σ:St}{H:Hp}(R:St->Hp->Prop)(hR:∀σ' H',R σ' H'->b D σ' H')(h:∀N:St->Hp->Prop,(∀σ' H',R σ' H'->N σ' H')->a { D with nx:=N } σ H):lF a b D σ H:=h _ hR
structure WD(C a:Addr)(H0:Hp)(m:Nat)(zs:List (Ya×Yd))(ls:List (Addr×List V))(H':Hp):Prop where
 ys:abD C H' zs
 yo:∀z∈zs,dX z.2
 fo:∀z∈zs,∀c∈z.1.own,H0 c=none/\c≠a/\∀l∈ls,c≠l.1
 lo:∀l∈ls,H0 l.1=none/\l.1≠a/\H' l.1=some (.lst l.2)
 tp:Tp H' a m
 sx:SX a H0 H'
section
variable{C a:Addr}{H0 H' dF:Hp}{m m':Nat}{zs:List (Ya×Yd)}{ls:List (Addr×List V)}
theorem WD.adb(W:WD C a H0 m zs ls H')(x:SX a H' dF)(t:Tp dF a m'):WD C a H0 m' zs ls dF:=
 ⟨⟨fun z hz=>(W.ys.at_ z hz).keep (Tq W.tp x) fun b hb o e=>x.get (W.fo z hz b hb).2.1 e,W.ys.dj⟩,W.yo,W.fo,fun l hl=>⟨(W.lo l hl).1,(W.lo l hl).2.1,x.get (W.lo l hl).2.1 (W.lo l hl).2.2⟩,t,W.sx.trans x⟩
theorem WD.grow(W:WD C a H0 m zs ls H')(s:aK H' dF):WD C a H0 m zs ls dF:=W.adb (SX.of s) (W.tp.same s)
theorem WD.free(W:WD C a H0 m zs ls H'){b:Addr}(e:H' b=none):H0 b=none/\b≠a/\(∀l∈ls,b≠l.1)/\∀z∈zs,b∉z.1.own:=by
 have ba:=W.tp.ne e;refine⟨sxF W.sx ba e,ba,fun l hl z=>?_,fun z hz hb=>?_⟩
 ·rw[z,(W.lo l hl).2.2] at e; cases e
 ·obtain⟨o,eo,_⟩:=(W.ys.at_ z hz).al b hb;rw[eo] at e; cases e
theorem WD.mem(W:WD C a H0 m zs ls H'){b:Addr}{vs:List V}(f:H0 b=none)(ba:b≠a)(o:∀z∈zs,b∉z.1.own)(e:H' b=some (.lst vs)):WD C a H0 m zs ((b,vs)::ls) H':=
 ⟨W.ys,W.yo,fun z hz c hc=>⟨(W.fo z hz c hc).1,(W.fo z hz c hc).2.1,fun l hl=>by
  rcases bB.mp hl with h | h
  ·rw[h]; intro e'; exact o z hz (show b∈z.1.own from(show c=b from e')▸hc)
  ·exact(W.fo z hz c hc).2.2 l h⟩,fun l hl=>by
  rcases bB.mp hl with h | h
  ·rw[h]; exact⟨f,ba,e⟩
  ·exact W.lo l h,W.tp,W.sx⟩
theorem WD.new(W:WD C a H0 m zs ls H'){b:Addr}{vs:List V}(e0:H' b=none)(s:aK H' dF)(e:dF b=some (.lst vs)):WD C a H0 m zs ((b,vs)::ls) dF:=by
 obtain⟨f1,f2,_,f4⟩:=W.free e0;exact(W.grow s).mem f1 f2 f4 e
theorem WD.kp(W:WD C a H0 m zs ls H'){S:List Addr}(f:Fr S H' dF)(hS:∀b∈S,b=a\/∃z∈zs,b∈z.1.own):fJ H' dF:=f.kp fun b hb xs e=>by
 rcases hS b hb with h | ⟨z,hz,h⟩
 ·rw[h] at e; exact W.tp.neT e rfl
 ·obtain⟨o,eo,no⟩:=(W.ys.at_ z hz).al b h;rw[eo] at e; cases e; exact no _ rfl
theorem WD.ac4(W:WD C a H0 m zs ls H'){i:Nat}{A A':Ya}{y y':Yd}{S:List Addr}(hi:zs[i]?=some (A,y))(new:bM C dF A' y')(YO:dX y')(f:Fr S H' dF)(hS:∀b∈S,b∈A.own)(hA:∀c∈A'.own,c∈A.own\/H' c=none):WD C a H0 m (zs.set i (A',y')) ls dF:=by
 have hz:=dC hi;have hl:i<zs.length:=(jF.mp hi).1;have kp:fJ H' dF:=W.kp f fun b hb=>.inr ⟨_,hz,hS b hb⟩
 have get:∀(j:Nat) z,(zs.set i (A',y'))[j]?=some z->(j=i/\z=(A',y'))\/(j≠i/\zs[j]?=some z):=fun j z h=>by
  rw[List.getElem?_set] at h;split at h
  ·rename_i e;cases h;exact .inl ⟨e.symm,rfl⟩
  ·rename_i e;exact .inr ⟨Ne.symm e,h⟩
 have nw:∀c∈A'.own,H0 c=none/\c≠a/\(∀l∈ls,c≠l.1)/\∀j z,j≠i->zs[j]?=some z->c∉z.1.own:=fun c hc=>by
  rcases hA c hc with h | h
  ·obtain⟨f1,f2,f3⟩:=W.fo _ hz c h;exact⟨f1,f2,f3,fun j z hj ej=>W.ys.dj i j _ z hi ej (Ne.symm hj) c h⟩
  ·obtain⟨f1,f2,f3,f4⟩:=W.free h;exact⟨f1,f2,f3,fun j z _ ej=>f4 z (dC ej)⟩
 refine⟨⟨fun z hz'=>?_,fun j k z z' h1 h2 ne c hc=>?_⟩,fun z hz'=>?_,fun z hz' c hc=>?_,fun l hl'=>⟨(W.lo l hl').1,(W.lo l hl').2.1,f _ _ (W.lo l hl').2.2 fun h=>(W.fo _ hz _ (hS _ h)).2.2 l hl' rfl⟩,?_,?_⟩
 ·obtain⟨j,hj⟩:=Kp hz';rcases get j z hj with⟨_,rfl⟩ | ⟨ne,e⟩
  ·exact new
  ·exact(W.ys.at_ z (dC e)).off f kp fun b hb hbS=>W.ys.dj j i z _ e hi ne b hb (hS b hbS)
 ·rcases get j z h1 with⟨e1,rfl⟩ | ⟨n1,e1⟩
  ·rcases get k z' h2 with⟨e2,rfl⟩ | ⟨n2,e2⟩
   ·omega
   ·exact(nw c hc).2.2.2 k z' n2 e2
  ·rcases get k z' h2 with⟨e2,rfl⟩ | ⟨n2,e2⟩
   ·exact fun h=>(nw c h).2.2.2 j z n1 e1 hc
   ·exact W.ys.dj j k z z' e1 e2 ne c hc
 ·obtain⟨j,hj⟩:=Kp hz';rcases get j z hj with⟨_,rfl⟩ | ⟨ne,e⟩
  ·exact YO
  ·exact W.yo z (dC e)
 ·obtain⟨j,hj⟩:=Kp hz';rcases get j z hj with⟨_,rfl⟩ | ⟨ne,e⟩
  ·exact⟨(nw c hc).1,(nw c hc).2.1,(nw c hc).2.2.1⟩
  ·exact W.fo z (dC e) c hc
 ·obtain⟨u1,u2,u3,eu,r⟩:=W.tp;exact⟨u1,u2,u3,f _ _ eu fun h=>(W.fo _ hz _ (hS _ h)).2.1 rfl,r⟩
 ·intro b o e;obtain⟨b1,b2⟩:=jk e;rw[dw b1]
  exact f _ _ (W.sx.get b1 b2) fun h=>by
   have:=(W.fo _ hz _ (hS _ h)).1;rw[b2] at this; cases this
theorem WD.made(W:WD C a H0 m zs ls H'){A:Ya}{y:Yd}(new:bM C dF A y)(YO:dX y)(s:aK H' dF)(hA:∀c∈A.own,H' c=none):WD C a H0 m (zs++[(A,y)]) ls dF:=by
 have W2:=W.grow s;have nw:∀c∈A.own,H0 c=none/\c≠a/\(∀l∈ls,c≠l.1)/\∀z∈zs,c∉z.1.own:=fun c hc=>W.free (hA c hc);refine⟨⟨fun z hz=>?_,fun j k z z' h1 h2 ne c hc=>?_⟩,fun z hz=>?_,fun z hz c hc=>?_,W2.lo,W2.tp,W2.sx⟩
 ·rcases d_.mp hz with h | h
  ·exact W2.ys.at_ z h
  ·rw[fV.mp h]; exact new
 ·have get:∀(j:Nat) z,(zs++[(A,y)])[j]?=some z->(j<zs.length/\zs[j]?=some z)\/(j=zs.length/\z=(A,y)):=fun j z h=>by
   by_cases hj:j<zs.length
   ·rw[zj hj] at h; exact .inl ⟨hj,h⟩
   ·rw[vy ∅] at h
    have:j-zs.length=0:=by
     cases e:j-zs.length with
     | zero=>rfl
     | succ e'=>rw[e] at h; simp at h
    rw[this] at h;cases h;exact .inr ⟨∅,rfl⟩
  rcases get j z h1 with⟨l1,e1⟩ | ⟨l1,rfl⟩
  ·rcases get k z' h2 with⟨l2,e2⟩ | ⟨l2,rfl⟩
   ·exact W2.ys.dj j k z z' e1 e2 ne c hc
   ·exact fun h=>(nw c h).2.2.2 z (dC e1) hc
  ·rcases get k z' h2 with⟨l2,e2⟩ | ⟨l2,rfl⟩
   ·exact(nw c hc).2.2.2 z' (dC e2)
   ·omega
 ·rcases d_.mp hz with h | h
  ·exact W.yo z h
  ·rw[fV.mp h]; exact YO
 ·rcases d_.mp hz with h | h
  ·exact W.fo z h c hc
  ·rw[fV.mp h] at hc;exact⟨(nw c hc).1,(nw c hc).2.1,(nw c hc).2.2.1⟩
theorem WD.put(W:WD C a H0 m zs ls H'){b:Addr}{vs vs':List V}(h:(b,vs)∈ls):WD C a H0 m zs ((b,vs')::ls.filter fun l=>l.1≠b) (upd H' b (.lst vs'))/\fJ H' (upd H' b (.lst vs')):=by
 obtain⟨h1,h2,h3⟩:=W.lo _ h;have kp:fJ H' (upd H' b (.lst vs')):=fJ.putL h3;have ob:∀z∈zs,∀c∈z.1.own,c≠b:=fun z hz c hc=>(W.fo z hz c hc).2.2 _ h;refine⟨⟨⟨fun z hz=>(W.ys.at_ z hz).keep kp fun c hc o e=>by rw[aH (ob z hz c hc)]; exact e,W.ys.dj⟩,W.yo,fun z hz c hc=>⟨(W.fo z hz c hc).1,(W.fo z hz c hc).2.1,fun l hl=>?_⟩,fun l hl=>?_,W.tp.fW h2,W.sx.fW h1 h2⟩,kp⟩
 ·rcases bB.mp hl with e | e
  ·rw[e]; exact ob z hz c hc
  ·exact(W.fo z hz c hc).2.2 l (Gd.mp e).1
 ·rcases bB.mp hl with e | e
  ·rw[e]; exact⟨h1,h2,aA⟩
  ·obtain⟨e1,e2⟩:=Gd.mp e;have e2':l.1≠b:=by simpa using e2
   obtain⟨g1,g2,g3⟩:=W.lo l e1;exact⟨g1,g2,by rw[aH e2']; exact g3⟩
theorem WD.opd(W:WD C a H0 m zs ls H'){op:Yd->Yd}(Y:abD C dF (zs.map fun z=>(z.1,op z.2)))(YO:∀z∈zs,dX (op z.2))(t:Tp dF a m')(f:Fr (a::aaI zs) H' dF):WD C a H0 m' (zs.map fun z=>(z.1,op z.2)) ls dF/\fJ H' dF:=by
 have Su:∀b∈aaI zs,∃z∈zs,b∈z.1.own:=fun b hb=>by
  obtain⟨w,hw,hb'⟩:=List.mem_flatMap.mp hb;refine⟨w,hw,?_⟩;unfold Ya.own;simp only[bB,dM,or_false] at hb';rcases hb' with rfl | rfl <;> simp
 refine⟨⟨Y,fun z hz=>?_,fun z hz c hc=>?_,fun l hl=>⟨(W.lo l hl).1,(W.lo l hl).2.1,f _ _ (W.lo l hl).2.2 fun h=>?_⟩,t,fun b o e=>?_⟩,W.kp f fun b hb=>?_⟩
 ·obtain⟨z0,h0,rfl⟩:=dZ.mp hz;exact YO z0 h0
 ·obtain⟨z0,h0,rfl⟩:=dZ.mp hz;exact W.fo z0 h0 c hc
 ·rcases bB.mp h with h | h
  ·exact(W.lo l hl).2.1 h
  ·obtain⟨z,hz,hb⟩:=Su _ h;exact(W.fo z hz _ hb).2.2 l hl rfl
 ·obtain⟨b1,b2⟩:=jk e;rw[dw b1];refine f _ _ (W.sx.get b1 b2) fun h=>?_;rcases bB.mp h with h | h
  ·exact b1 h
  ·obtain⟨z,hz,hb⟩:=Su _ h;have:=(W.fo z hz _ hb).1;rw[b2] at this; cases this
 ·rcases bB.mp hb with h | h
  ·exact .inl h
  ·exact .inr (Su b h)
theorem aaZ{t:Int}{ts:List T3}{ss:List gD}(T:JV t ts)(hp:∀x∈ts,Ei x.2.1)(hl:ss.length=ts.length)(hS:∀z∈ss,Hs z)(hh:hands ss<=t):dX (qJ t ts ss):=by
 refine⟨T.nn,by show 1<=(ts.map _).length; rw[bN]; exact T.n1,by show(ts.map _).length<=5; rw[bN]; exact T.n5,by show(ts.map _).length=(ts.map _).length; rw[bN,bN],by show(ts.map _).length=(ts.map _).length; rw[bN,bN],by show ss.length=(ts.map _).length; rw[bN]; exact hl,by show(ts.map _).length=(ts.map _).length; rw[bN,bN],?_,?_,?_,hS,?_,hh,T.lm,by show 0<=500; decide,fun r hr=>by simp[qJ] at hr⟩
 ·intro n hn;obtain⟨x,hx,rfl⟩:=dZ.mp hn;exact T.ng x hx
 ·intro x hx;obtain⟨z,hz,rfl⟩:=dZ.mp hx;exact hp z hz
 ·intro i z hz
  replace hz:(ts.map (·.2.2))[i]?=some (some z):=hz
  rw[cA] at hz;cases e:ts[i]? with
  | none=>rw[e] at hz; cases hz
  | some x=>
   rw[e] at hz;exact T.og i x z e (Option.some.inj hz)
 ·intro u hu;obtain⟨_,_,rfl⟩:=dZ.mp hu;rfl
theorem KY(W:WD C a H0 m zs ls H'){t:Int}{p:Addr}{ys:List V}{ts:List T3}{sv:V}{ss:List gD}{P:Addr->Hp->Prop}{E:XK}(hp:H' p=some (.lst ys))(ha:aa H' (ts.map Hx) ys)(T:JV t ts)(hps:∀x∈ts,Ei x.2.1)(hsv:(sv=.non/\ss=ts.map fun x=>eF x.2.1)\/∃l O1,sv=.ref l/\H' l=some (.lst O1)/\aa H' (ss.map kh) O1)(hl:ss.length=ts.length)(hS:∀z∈ss,Hs z)(hh:hands ss<=t)
  (q:∀A H2,aK H' H2->WD C a H0 m (zs++[(A,qJ t ts ss)]) ls H2->P A.p H2):∀y2 Wm,H' y2=none->H' Wm=none->Wm≠y2->Ii C [.ref y2,.int t,.ref p,sv] (upd (upd H' Wm (.own y2)) y2 (.ins C Wm [])) (fun v H2=>v=.non/\P y2 H2) E:=by
 intro y2 Wm fy fdx ne;have s3:aK H' (upd (upd H' Wm (.own y2)) y2 (.ins C Wm [])):=(aO fdx _).trans (aO (by rw[aH ne.symm]; exact fy) _)
 refine⟨y2,Wm,t,p,ys,ts,sv,ss,rfl,aA,s3 _ _ hp,ha.mono s3,T,hps,?_,hl,hS,hh,fun A HC eA YC _ ac3 frC=>⟨rfl,?_⟩⟩
 ·rcases hsv with h | ⟨l,O1,h1,h2,h3⟩
  ·exact .inl h
  ·exact .inr ⟨l,O1,h1,s3 _ _ h2,h3.mono s3⟩
 ·subst eA;have sC:aK H' HC:=fun c o e=>frC _ _ (s3 _ _ e) (by simp; intro z'; rw[z',fy] at e; cases e)
  refine q A HC sC (W.made YC (aaZ T hps hl hS hh) sC fun c hc=>?_);rcases ac3 c hc with e | e
  ·rw[e]; exact fy
  ·cases q':H' c with
   | none=>rfl
   | some o=>rw[s3 _ _ q'] at e; cases e
theorem WD.Vp(W:WD C a H0 m zs ls H'){i:Nat}{A:Ya}{y:Yd}{lc:Addr}{us:List V}{cs:List (Str×Int)}{Q:VK}{E:XK}(hi:zs[i]?=some (A,y))(hl:(lc,us)∈ls)(ac:aa H' (cs.map Yt) us)(G:CmG y.ns cs)(hp:y.pa.length<500)
  (q:∀p mm xs H2,WD C a H0 m (zs.set i ({ A with qW:=A.qW++[mm] },yM y cs)) ((p,xs)::ls) H2->aa H2 ((qi y cs).map vU) xs->fJ H' H2->H' p=none->Q (.ref p) H2):Xc C [.ref A.p,.ref lc] H' Q E:=by
 have hz:=dC hi;have YO:=W.yo _ hz;refine⟨A,y,lc,us,cs,rfl,W.ys.at_ _ hz,YO,(W.lo _ hl).2.2,ac,G.nd,G.ni,hp,fun h=>(W.fo _ hz _ h).2.2 _ hl rfl,fun p mm xs H2 fm fp pm Y2 e2 a2 f2=>?_⟩
 have inS:∀b∈[A.ds,A.dt,A.lp],b∈A.own:=fun b hb=>by
  unfold Ya.own;simp only[bB,dM,or_false] at hb;rcases hb with rfl | rfl | rfl <;> simp
 have W2:=W.ac4 hi Y2 (RZ YO hp) f2 inS fun c hc=>by
  unfold Ya.own at hc ⊢;simp only[d_,fV] at hc ⊢;rcases hc with h | h | h
  ·exact .inl (.inl h)
  ·exact .inl (.inr h)
  ·rw[h]; exact .inr fm
 obtain⟨g1,g2,g3,g4⟩:=W.free fp
 have po:∀z∈zs.set i ({ A with qW:=A.qW++[mm] },yM y cs),p∉z.1.own:=fun z hz' hc=>by
  rcases M6 hz' with h | h
  ·exact g4 z h hc
  ·rw[h] at hc;unfold Ya.own at hc;simp only[d_,fV] at hc;rcases hc with h | h | h
   ·exact g4 _ hz (by unfold Ya.own; exact M3 _ h)
   ·exact g4 _ hz (by unfold Ya.own; exact iI _ h)
   ·exact pm h
 exact q p mm xs H2 (W2.mem g1 g2 po e2) a2 (W.kp f2 fun b hb=>.inr ⟨_,hz,inS b hb⟩) fp
theorem Du{x:eO}(h:Ei x):Hs (eF x)/\hnd (eF x)=x.lo:=by
 have:=h.lo;refine⟨⟨this.1,rfl,?_,rfl,?_⟩,?_⟩
 ·intro y hy;unfold eF at hy;simp at hy;omega
 ·intro y hy;unfold eF at hy;simp at hy;rw[hy]; rfl
 ·unfold hnd eF;simp
theorem uW:∀{ts:List T3},(∀x∈ts,Ei x.2.1)->hands (ts.map fun x=>eF x.2.1)=((ts.map (·.2.1)).map eO.lo).sum
 | [],_=>rfl
 | x::ts,h=>by
  have ih:=uW (ts:=ts) fun z hz=>h z (cI _ hz);have:=(Du (h x (dg ..))).2;unfold hands at ih ⊢;simp only[gH,y_] at ih ⊢;rw[ih,this]
end
end
local macro_rules | `(tactic| ext)=>`(tactic| simp only[_L.start,gH,vd,fU,mX,Nat.reduceAdd,Nat.reduceSub,List.replicate,Fy,vg,qF,
 lF,yQ,Ex,wK,uE,qu,dh,uH,jE,lJ,jc,lN,if_true,if_false,tY,Fv,xM,lM,lL,jW,qz,qD,nU,lO,lQ,jd,lK,qC,xr,tC,Ia,VG,IK,rI,rU,q_,Ff,VL,Ez,uJ,H_,wL,Pu,iU,Ov,iz,qt,tB,nj,VJ,jy,uA,GX,Ey,EY,HY,uG,uy,Tt,Mz,Fe,uD,uI,U6,uF,E_,Ze,Zb,Zc,Zd,Mx,tK,qp,Y4,z9,Y9,Mh,zY,Mm,YZ,Mi,Ml,Mg,zZ,Mj,Ai,Aj,Fd,Fq,mz,sZ,rm,xm,iT,Ie,O9])
section
variable{P:AC}{w:World}{K:Frag}{mg:Str->Option AA}{base:Heap}{f:Addr}{fd:FuncData}{k:Nat}
structure NW(y:Yd):Prop where
 w:∀s∈y.ss,0<=s.w
 t:y.tot<=60
structure RwB(r:Rw):Prop where
 c:0<=r.c/\r.c<=2000000000000
 d:0<=r.d/\r.d<=60000000
 a:0<=r.a/\r.a<=2000000000000
 h:-100<=r.h/\r.h<=100
theorem O_{x:eO}{st:gD}{ch:Int}:(fO x st ch).w=st.w:=by
 unfold fO;split
 ·rfl
 ·split <;> rfl
theorem J8{x:eO}{st:gD}{c:Int}(hc:0<=c):0<=cu x st c/\cu x st c<=c:=by
 unfold cu;split <;> split <;> omega
theorem Yc{ss:List gD}{s:gD}(h:∀z∈ss,Hs z)(hs:s∈ss):hnd s<=hands ss:=by
 induction ss with
 | nil=>simp at hs
 | cons z zs ih=>
  have hz:=Dm (h z (dg ..))
  have hr:0<=hands zs:=tM _ fun q hq=>by
   obtain⟨s',hs',rfl⟩:=dZ.mp hq;exact Dm (h s' (cI _ hs'))
  show hnd s<=hnd z+hands zs;rcases bB.mp hs with rfl | h'
  ·omega
  ·have:=ih (fun z hz=>h z (cI _ hz)) h'; omega
theorem Ft{st:gD}(h:Hs st):0<=bZ st/\bZ st<=hnd st:=by
 have h1:=h.r;have h2:=h.cn;unfold bZ hnd;cases e:st.cs with
 | nil=>have:=h.c; rw[e] at this; simp at this
 | cons z zs=>
  rw[e] at h2;have hz:=h2 z (dg ..);have:=tM zs fun q hq=>h2 q (cI _ hq);simp only[List.getD_cons_zero,y_];omega
theorem adF{y:Yd}{i:Nat}{c:Int}(YO:dX y)(N:NW y)(hi:i<y.ns.length)(hc:0<=c)(hc2:c<=2000000000000):RwB (vA y i c)/\NW (Jd y i c):=by
 have l1:=YO.lp;have l2:=YO.ls;have es:y.ss[i]?=some y.ss[i]:=cT ∅
 have e1:jG y i=y.ss[i]:=by unfold jG; rw[ig,es]; rfl
 have e2:j7 y i=y.ps[i]:=by unfold j7; rw[ig,cT (by omega:i<y.ps.length)]; rfl
 have m1:jG y i∈y.ss:=by rw[e1]; exact mZ _
 have m2:j7 y i∈y.ps:=by rw[e2]; exact mZ _
 have X:=Jp (x:=j7 y i) (st:=jG y i) (c:=c) (YO.pg _ m2) (YO.sg _ m1) (Dr YO);have hw:=N.w _ m1;have ht:=N.t;have hh:=Yc YO.sg m1;have hh2:=YO.hs;have h0:=Dm (YO.sg _ m1);obtain⟨r0,r1⟩:=Ft (YO.sg _ m1);obtain⟨t0,t1⟩:=J8 (x:=j7 y i) (st:=jG y i) hc;have p1:=(YO.pg _ m2).p
 have hr:0<=bZ (jG y i)*(j7 y i).p/\bZ (jG y i)*(j7 y i).p<=60000000:=by
  refine⟨Int.mul_nonneg r0 ∅,?_⟩
  calc bZ (jG y i)*(j7 y i).p<=60*1000000:=Int.mul_le_mul ∅ p1.2 ∅ ⋯
   _=60000000:=by decide
 have hd:0<=gr (j7 y i) (jG y i) c/\gr (j7 y i) (jG y i) c<=60000000/\gr (j7 y i) (jG y i) c<=(jG y i).w+cu (j7 y i) (jG y i) c:=by
  unfold gr;generalize bZ (jG y i)*(j7 y i).p=g at hr;generalize cu (j7 y i) (jG y i) c=t at t0 t1;split <;> omega
 refine⟨⟨⟨hc,hc2⟩,⟨hd.1,hd.2.1⟩,⟨by show 0<=c-cu _ _ c; omega,by show c-cu _ _ c<=_; omega⟩,?_⟩,⟨fun s hs=>?_,ht⟩⟩
 ·have h1:=X.h;have h2:=Dm X.s;have h3:=X.l;have hf:iD y<=12:=by unfold iD; split <;> omega
  show -100<=uY (j7 y i) (jG y i) c (iD y)/\uY (j7 y i) (jG y i) c (iD y)<=100;omega
 ·rcases M6 hs with h | h
  ·exact N.w s h
  ·rw[h];show 0<=(fO _ (iu _ _ c) _).w;rw[O_];show 0<=(jG y i).w+cu _ _ c-gr _ _ c;omega
structure ae8(y:Yd)(cm:List Int)(i:Nat):Prop where
 b:∀r∈(aW y cm i).2.2,RwB r
 n:NW (aW y cm i).1
 c:∀c∈(aW y cm i).2.1,0<=c/\c<=1000000000000+i*60000000
 t:∀j t,y.ts[j]?=some t->∃t',(aW y cm i).1.ts[j]?=some t'/\(i<=j->t'=t)/\∀r,(aW y cm i).2.2[j]?=some r->t'=JT t r.c r.d r.a
 l:(aW y cm i).2.2.length=i
theorem Ql{y:Yd}{cm:List Int}(YO:dX y)(N:NW y)(hcm:∀c∈cm,0<=c/\c<=1000000000000):∀i,i<=y.ns.length->ae8 y cm i
 | 0,_=>⟨fun r h=>by simp[aW] at h,N,fun c h=>by have:=hcm c h; omega,fun j t h=>⟨t,h,fun _=>rfl,fun r hr=>by simp[aW] at hr⟩,rfl⟩
 | i+1,h=>by
  have ih:=Ql YO N hcm i (Cq h);have F:=cH y cm i;have YI:=jD (cm:=cm) YO (Cq h);have n5:=YO.n5;obtain⟨c,ec⟩:∃c,(aW y cm i).2.1.getD i 0=c:=⟨_,rfl⟩
  have hc:0<=c/\c<=1000000000000+i*60000000:=by
   rw[<- ec,ig];cases e:(aW y cm i).2.1[i]? with
   | none=>show 0<=(0:Int)/\(0:Int)<=_; omega
   | some v=>exact ih.c v (dC e)
  obtain⟨P1,P2⟩:=adF (i:=i) (c:=c) YI ih.n (by rw[F.n]; omega) hc.1 ∅
  have e1:(aW y cm (i+1)).1=Jd (aW y cm i).1 i c:=by show Jd _ _ ((aW y cm i).2.1.getD i 0)=_; rw[ec]
  have e3:(aW y cm (i+1)).2.2=(aW y cm i).2.2++[vA (aW y cm i).1 i c]:=by show _++[vA _ _ ((aW y cm i).2.1.getD i 0)]=_; rw[ec]
  refine⟨fun r hr=>?_,by rw[e1]; exact P2,fun v hv=>?_,fun j t ht=>?_,by rw[e3,cC,ih.l]; rfl⟩
  ·rw[e3] at hr;rcases d_.mp hr with h | h
   ·exact ih.b r h
   ·rw[fV.mp h]; exact P1
  ·have e2:(aW y cm (i+1)).2.1=match (aW y cm i).1.os.getD i none with
     | none=>(aW y cm i).2.1
     | some o=>(aW y cm i).2.1.set ((aW y cm i).1.ns.idxOf o) ((aW y cm i).2.1.getD ((aW y cm i).1.ns.idxOf o) 0+(vA (aW y cm i).1 i c).d):=by
    rw[<- ec]; rfl
   rw[e2] at hv;have hd:=P1.d;split at hv
   ·have:=ih.c v hv; omega
   ·rename_i o _;rcases M6 hv with h | h
    ·have:=ih.c v h; omega
    ·rw[h,ig];cases e:(aW y cm i).2.1[(aW y cm i).1.ns.idxOf o]? with
     | none=>show 0<=(0:Int)+_/\(0:Int)+_<=_; omega
     | some u=>
      have:=ih.c u (dC e);show 0<=u+_/\u+_<=_;omega
  ·obtain⟨t',g1,g2,g3⟩:=ih.t j t ht;rw[e1,e3];by_cases hj:i=j
   ·subst hj;have gt:Je (aW y cm i).1 i=t:=by unfold Je; rw[ig,g1,g2 (bw _)]; rfl
    refine⟨JT t c (vA (aW y cm i).1 i c).d (vA (aW y cm i).1 i c).a,?_,fun z=>by omega,fun r hr=>?_⟩
    ·show((aW y cm i).1.ts.set i _)[i]?=_;rw[Ks (jF.mp g1).1,gt]
    ·rw[vy (by rw[ih.l]; exact bw _),ih.l,xJ] at hr
     cases hr;rfl
   ·refine⟨t',?_,fun z=>g2 ∅,fun r hr=>?_⟩
    ·show((aW y cm i).1.ts.set i _)[j]?=_;rw[Gj hj]; exact g1
    ·by_cases hl:j<i
     ·rw[zj (by rw[ih.l]; exact hl)] at hr
      exact g3 r hr
     ·rw[List.getElem?_eq_none (by rw[cC,ih.l]; simp; omega)] at hr
      cases hr
def Yk(z:Int):Int:=if 12<z then 12 else z
structure Lw(x:eO)(s s':gD)(r:Rw)(fr:Int):Prop where
 d:r.d=gr x s r.c
 a:r.a=r.c-cu x s r.c
 w:s'.w=s.w+cu x s r.c-gr x s r.c
 c0:0<=r.c
 w0:0<=s.w
 h:hnd s'=hnd s+r.h
 s12:hnd s<=12
 h12:hnd s'<=12
 f:r.h<=fr
 px:Ei x
 sn:Hs s
 sn':Hs s'
def TW(y:Yd):Prop:=∀s∈y.ss,hnd s<=12
theorem U9{x:eO}{s:gD}{c fr:Int}(hx:Ei x)(hs:Hs s)(h:hnd s<=12)(hf:0<=fr):hnd s+uY x s c fr<=12:=by
 have hc5:=hs.c;have hlo:=hx.lo;have hhi:=hx.hi;unfold hnd at h ⊢;unfold uY;rw[jH hc5]
 have hwb:ux x.ir x.lo x.hi (s.r+s.cs.sum) (gm x s c)<=x.hi:=by
  unfold ux;simp only
  repeat' split <;> try omega
 split
 ·unfold wj;split <;> omega
 ·omega
theorem Xo{y:Yd}{i:Nat}{c:Int}(YO:dX y)(N:NW y)(T:TW y)(hi:i<y.ns.length)(hc:0<=c):Lw (j7 y i) (jG y i) (V6 y i c) (vA y i c) (iD y):=by
 have l1:=YO.lp;have l2:=YO.ls;have es:y.ss[i]?=some y.ss[i]:=cT ∅
 have e1:jG y i=y.ss[i]:=by unfold jG; rw[ig,es]; rfl
 have e2:j7 y i=y.ps[i]:=by unfold j7; rw[ig,cT (by omega:i<y.ps.length)]; rfl
 have m1:jG y i∈y.ss:=by rw[e1]; exact mZ _
 have m2:j7 y i∈y.ps:=by rw[e2]; exact mZ _
 have hf:=Dr YO;have X:=Jp (x:=j7 y i) (st:=jG y i) (c:=c) (YO.pg _ m2) (YO.sg _ m1) hf;refine⟨rfl,rfl,?_,hc,N.w _ m1,X.h,T _ m1,?_,?_,YO.pg _ m2,YO.sg _ m1,X.s⟩
 ·unfold V6;rw[O_];rfl
 ·have:=U9 (c:=c) (YO.pg _ m2) (YO.sg _ m1) (T _ m1) hf;have h:=X.h;show hnd (fO _ (iu _ _ c) _)<=12;omega
 ·show uY _ _ c _<=_;rcases X.l with h | h <;> omega
def hsum(rs:List Rw):Int:=(rs.map Rw.h).sum
theorem Bd(rs:List Rw)(r:Rw):hsum (rs++[r])=hsum rs+r.h:=by
 induction rs with
 | nil=>simp[hsum]
 | cons x a ih=>simp only[hsum,Fy,gH,y_] at ih ⊢; omega
structure ae7(y:Yd)(cm:List Int)(i:Nat):Prop where
 s:∀j:Nat,i<=j->(aW y cm i).1.ss[j]?=y.ss[j]?
 t:TW (aW y cm i).1
 h:hands (aW y cm i).1.ss=hands y.ss+hsum (aW y cm i).2.2
 r:∀(j:Nat) r nm x s s',(aW y cm i).2.2[j]?=some r->y.ns[j]?=some nm->y.ps[j]?=some x->y.ss[j]?=some s->(aW y cm i).1.ss[j]?=some s'->r.n=nm/\Lw x s s' r (Yk (y.tot-(hands y.ss+hsum ((aW y cm i).2.2.take j))))
theorem V3{y:Yd}{cm:List Int}(YO:dX y)(N:NW y)(T:TW y)(hcm:∀c∈cm,0<=c/\c<=1000000000000):∀i,i<=y.ns.length->ae7 y cm i
 | 0,_=>⟨fun _ _=>rfl,T,by simp[aW,hsum],fun j r nm x s s' h=>by simp[aW] at h⟩
 | i+1,h=>by
  have ih:=V3 YO N T hcm i (Cq h);have RB:=Ql YO N hcm i (Cq h);have F:=cH y cm i;have YI:=jD (cm:=cm) YO (Cq h);have lp:=YO.lp;have ls:=YO.ls;obtain⟨nmi,eni⟩:∃nm,y.ns[i]?=some nm:=⟨_,cT ∅⟩
  obtain⟨si,esi⟩:∃s,y.ss[i]?=some s:=⟨_,cT ∅⟩
  obtain⟨xi,exi⟩:∃s,y.ps[i]?=some s:=⟨_,cT ∅⟩
  obtain⟨c,ec⟩:∃c,(aW y cm i).2.1.getD i 0=c:=⟨_,rfl⟩
  have hc:0<=c:=by
   rw[<- ec,ig];cases e:(aW y cm i).2.1[i]? with
   | none=>show 0<=(0:Int); decide
   | some v=>exact(RB.c v (dC e)).1
  have e1:(aW y cm (i+1)).1=Jd (aW y cm i).1 i c:=by show Jd _ _ ((aW y cm i).2.1.getD i 0)=_; rw[ec]
  have e3:(aW y cm (i+1)).2.2=(aW y cm i).2.2++[vA (aW y cm i).1 i c]:=by show _++[vA _ _ ((aW y cm i).2.1.getD i 0)]=_; rw[ec]
  have sI:(aW y cm i).1.ss[i]?=some si:=by rw[ih.s i (bw _)]; exact esi
  have pS:jG (aW y cm i).1 i=si:=by unfold jG; rw[ig,sI]; rfl
  have pX:j7 (aW y cm i).1 i=xi:=by unfold j7; rw[ig,F.p,exi]; rfl
  have lsR:(aW y cm i).1.ss.length=y.ns.length:=by rw[YI.ls,F.n]
  have PR:=Xo (c:=c) YI RB.n ih.t (by rw[F.n]; omega:i<(aW y cm i).1.ns.length) hc
  rw[pS,pX] at PR
  have fr:iD (aW y cm i).1=Yk (y.tot-(hands y.ss+hsum (aW y cm i).2.2)):=by
   unfold iD Yk;rw[F.t,ih.h]
  rw[fr] at PR;refine⟨fun j hj=>?_,fun z hz=>?_,?_,fun j r nm x s s' hr en ex es es'=>?_⟩
  ·rw[e1];show((aW y cm i).1.ss.set i _)[j]?=_;rw[Gj ∅]
   exact ih.s j ∅
  ·rw[e1] at hz;rcases M6 hz with h | h
   ·exact ih.t z h
   ·rw[h]; exact PR.h12
  ·rw[e1,e3,Bd];show hands ((aW y cm i).1.ss.set i (V6 (aW y cm i).1 i c))=_;rw[Be sI,ih.h];have:=PR.h;omega
  ·rw[e3] at hr ⊢;rw[e1] at es';by_cases hji:j<i
   ·rw[zj (by rw[F.r]; exact hji)] at hr
    replace es':((aW y cm i).1.ss.set i _)[j]?=some s':=es'
    rw[Gj ∅] at es'
    rw[List.take_append_of_le_length (by rw[F.r]; omega)]
    exact ih.r j r nm x s s' hr en ex es es'
   ·have hj:j=i:=by
     have:=(jF.mp hr).1;rw[cC,F.r] at this;simp at this;omega
    subst hj;rw[vy (by rw[F.r]; exact bw _),F.r,xJ] at hr
    cases hr;rw[eni] at en;cases en;rw[esi] at es;cases es;rw[exi] at ex;cases ex
    replace es':((aW y cm j).1.ss.set j (V6 (aW y cm j).1 j c))[j]?=some s':=es'
    rw[Ks ∅] at es'
    cases es';refine⟨?_,?_⟩
    ·show(aW y cm j).1.ns.getD j "" = nmi;rw[F.n,ig,eni]; rfl
    ·rw[List.take_append_of_le_length (by rw[F.r]; exact bw _),Qp (by rw[F.r]; exact bw _)]
     exact PR
theorem Qm(ir:List (List jx)):uR (nQ ir)=true:=by
 show bD (ir.map uM)=true;exact bj.mpr fun d hd=>by obtain⟨rs,_,rfl⟩:=dZ.mp hd; exact xn rs
theorem Av{H:Hp}{x:eO}{v:V}(h:At H (gM x) v):∃a v2 v5 v6,v=.ref a/\H a=some (.tup [.int x.p,.int x.m,v2,.int x.a,.int x.e,v5,v6])/\At H (.tuple [.int x.lo,.int x.hi]) v2/\At H (.tuple [.int x.u,.int x.d]) v5/\At H (nQ x.ir) v6:=by
 obtain⟨a,xs,rfl,h1,h2⟩:=aY h;obtain⟨x0,_,rfl,b0,h2⟩:=aa.aJ h2;obtain⟨x1,_,rfl,b1,h2⟩:=aa.aJ h2;obtain⟨x2,_,rfl,b2,h2⟩:=aa.aJ h2;obtain⟨x3,_,rfl,b3,h2⟩:=aa.aJ h2;obtain⟨x4,_,rfl,b4,h2⟩:=aa.aJ h2;obtain⟨x5,_,rfl,b5,h2⟩:=aa.aJ h2;obtain⟨x6,_,rfl,b6,h2⟩:=aa.aJ h2;cases aa.fH h2;unfold At at b0 b1 b3 b4;subst b0 b1 b3 b4;exact⟨a,x2,x5,x6,rfl,h1,b2,b5,b6⟩
theorem Xm{H:Hp}{x:eO}{a:Addr}{v2 v5 v6:V}(h:H a=some (.tup [.int x.p,.int x.m,v2,.int x.a,.int x.e,v5,v6]))(h2:At H (.tuple [.int x.lo,.int x.hi]) v2)(h5:At H (.tuple [.int x.u,.int x.d]) v5)(h6:At H (nQ x.ir) v6):At H (gM x) (.ref a):=
 At.tup h (aa.cons (At.int _) (aa.cons (At.int _) (aa.cons h2 (aa.cons (At.int _) (aa.cons (At.int _) (aa.cons h5 (aa.cons h6 aa.nil)))))))
def aad:Sp:=fun vs H Q _=>∃(a:Addr)(n:Nat),vs=[.ref a]/\Tp H a n/\n<=10000000/\∀q (ts:List T3) us H',H q=none->q≠a->H' q=some (.lst us)->aa H' (ts.map Hx) us->3<=ts.length->(∀t,((ts.map (·.2.1)).map eO.lo).sum<=t->JV t ts)->(∀x∈ts,Ei x.2.1)->Tp H' a (n+3000)->SX a H H'->Q (.ref q) H'
theorem Ae:aV ["_law_tape_here","_law_names_here","_law_rows_here","_law_k","_law_name","_law_post_here","_law_middle","_law_behind"] AM (aD xf):=(by walk_at "c")
theorem Nh(F:jL K "_law_rows" "_law_rows" xf f fd)(B:Bi mg)(aM:Ct P w K mg base k "_law_draw" AL il)(RP:Ct P w K mg base k "_law_post" AM P_)(Og:Ct P w K mg base k "_law_names" AL Xe):bF P w K mg base iy (k+1) f fd AM aad:=by
 refine F.ok Ae (hbody:=(0:))
 obtain⟨a,n,rfl,tp,hn,q⟩:=h;have ND:=Ae.nd;refine⟨_,(aq (aR (i:=1) (pf Og hr (ak (pv 0) (ak (aL bu ao (pf aM hr (ak (pv 0) (ak ao aj)))) aj)))) (aq (aR (i:=2) (cG aj)) (aq (gO PassesOwn.never rfl (CN (K:=K) rfl B.enumerate (ak (pv 1) aj)) (bR (K:=K) (n:=2) rfl rfl (aB (aC (i:=3)) (aB (aC (i:=4)) bC))) (aq (aR (i:=5) (pf RP hr (ak (pv 0) aj))) (aq (cN (bf jh (pf aM hr (ak (pv 0) (ak ao aj))) ao (bc _)) (aq (aR (i:=6) (bA (ak (bA (ak (pf aM hr (ak (pv 0) (ak ao aj))) (ak ao aj))) (ak (pf aM hr (ak (pv 0) (ak ao aj))) (ak (aL bu ao (pf aM hr (ak (pv 0) (ak ao aj)))) aj))))) (aF (aR (i:=5) (aL oZ (aL oZ (cY jz (pv 5) eU (eQ ao)) (pv 6)) (cY jz (pv 5) (eQ ao) eU))))) bI) (aq (aR (i:=7) (aL QL (cG (ak ou aj)) (aL Jf (cY Ce (pv 1) (eQ (aL bu (pv 3) ao)) eU) ao))) (aF (dq (lW (K:=K) rfl PySem.F.plainAttrs_list PySem.F.slot_list_append PySem.F.type_list_append eZ (pv 2) (ak (bA (ak (pv 4) (ak (pv 5) (ak (aU aP (pv 7) (pf aM hr (ak (pv 0) (ak (pb (cB (K:=K) rfl) B.len dU (ak (pv 7) aj)) aj))) (fun _ _=>rfl)) aj)))) aj)))))))) (aF (aZ (pv 2)))))),?_⟩
 simp only[Qi];ext;refine cR.of tp ∅ ⋯ ⋯ fun d H2 d0 d1 t2 x2=>?_
 obtain⟨m,em,m1,m5⟩:∃m:Nat,3+d=(m:Int)/\3<=m/\m<=5:=⟨(3+d).toNat,∅,∅,∅⟩
 refine⟨3,d,rfl,rfl,?_⟩;rw[em];refine Nm.of (m:=m) rfl ∅ t2 ∅ fun pn zs H3 fn na lz gz ndz en t3 x3=>⟨⋯,fun pr H4 f4 s4 e4=>?_⟩
 have x14:SX a H H4:=x2.trans (x3.trans (SX.of s4));have Sg:=t3.ne f4;have f4':H pr=none:=sxF (x2.trans x3) Sg f4;have prn:pr≠pn:=fun z=>by rw[z,en] at f4; cases f4
 rw[tu];ext;refine EK.of (s4 _ _ en) (fun i σ H'=>∃(ts:List T3)(us:List V)(o3 o4 o5 o6 o7:Option V),σ=[some (V.ref a),some (V.ref pn),some (V.ref pr),o3,o4,o5,o6,o7]/\ts.length=i/\us.length=i/\ts.map (·.1)=(zs.take i).map tx/\(∀x∈ts,Ei x.2.1)/\(∀(j:Nat)(x:T3) z,ts[j]?=some x->x.2.2=some z->z∈(zs.map tx).drop (j+1))/\H' pn=some (.lst (zs.map fun z=>V.str (tx z)))/\H' pr=some (.lst us)/\aa H' (ts.map Hx) us/\Tp H' a (n+301+406*i)/\SX a H H')
  (Sd ([]) ([]) _ _ _ _ _ ⟨rfl,rfl,rfl,rfl,by simp,by simp,s4 _ _ en,e4,aa.nil,(t3.same s4).mono ∅,x14⟩) (fun i σ H' _ hP=>by obtain⟨_,_,_,_,_,_,_,_,_,_,_,_,_,h,_⟩:=hP; exact h) ?_ ?_
 ·intro i xv σ H5' px hxv wz fp; refine KC wz fun ts us o3 o4 o5 o6 o7 LQ lt lu Vf yO=>?_; clear wz; subst LQ; refine nZ yO fun hps hog aep e5' a5' Em=>?_; clear yO; obtain⟨t5',x5'⟩:=Em;rw[cA] at hxv
  have hiz:i<zs.length:=by
   cases e:zs[i]? with
   | none=>rw[e] at hxv; cases hxv
   | some z=>exact(jF.mp e).1
  rw[cT hiz] at hxv;cases hxv;have s5:=aO fp (HO.tup [.int (i:Nat),V.str (tx zs[i])]);have ep:upd H5' px (HO.tup [.int (i:Nat),V.str (tx zs[i])]) px=some (HO.tup [.int (i:Nat),V.str (tx zs[i])]):=aA;have t5:=t5'.same s5;have x5:SX a H (upd H5' px (HO.tup [.int (i:Nat),V.str (tx zs[i])])):=x5'.trans (SX.of s5);have en5:=s5 _ _ aep;have e5:=s5 _ _ e5';have a5:=a5'.mono s5;generalize upd H5' px (HO.tup [.int (i:Nat),V.str (tx zs[i])])=H5 at ep t5 x5 en5 e5 a5 ⊢;refine(jM px _ ⟨rfl,fK.of ep,rfl,?_⟩);ext;refine(jM a _ ⟨rfl,t5,∅,fun pv0 x0 H50 hx0 ax0 t50 x50=>?_⟩)
  refine uz.of (R:=fun σ H'=>∃pv x o6,σ=[some (V.ref a),some (V.ref pn),some (V.ref pr),some (.int (i:Nat)),some (V.str (tx zs[i])),some pv,o6,o7]/\Ei x/\At H' (gM x) pv/\Tp H' a (n+301+406*i+405)/\SX a H5 H') ?_ ?_
  ·intro σ H6 LC; refine kJ LC fun pv x o6' iQ hx ax BJ=>?_; clear LC; subst iQ; obtain⟨t6,x6⟩:=BJ;have en6:=x6.get na en5;have e6:=x6.get Sg e5;have a6:=aa.kp (Tq t5 x6) _ _ (oY _) a5;have aeo:H6 pn=some (.lst ((zs.map tx).map V.str)):=by rw[xH]; exact en6
   ext;refine⟨⋯,fun p7 H7 f7 s7 e7=>?_⟩
   have en7:=s7 _ _ aeo;refine⟨pn,_,rfl,bT.of en7,fun p8 f8=>?_⟩;rw[su ∅,show((i:Int)+1).toNat=i+1 by omega,<- List.map_drop]
   have s8:=aO f8 (HO.lst (((zs.map tx).drop (i+1)).map V.str));have ldr:((zs.map tx).drop (i+1)).length<=5:=by rw[Cp,bN]; omega
   refine(Eg p8 2 _ ⟨rfl,rfl,aA,⋯,⋯,?_,fun p9 f9=>?_⟩)
   ·rw[bN];exact nY (aQ (by show _*2<=1000; omega))
   have efl:(List.replicate (2:Int).toNat (((zs.map tx).drop (i+1)).map V.str)).flatten=(((zs.map tx).drop (i+1)++(zs.map tx).drop (i+1)).map some).map qX:=by
    rw[xH,gJ];show((zs.map tx).drop (i+1)).map V.str++(((zs.map tx).drop (i+1)).map V.str++[])=_;rw[qF]; rfl
   rw[efl];generalize hD:(zs.map tx).drop (i+1)++(zs.map tx).drop (i+1)=D3
   have hD3:(∀z∈D3,z∈(zs.map tx).drop (i+1))/\D3.length<=15:=by
    rw[<- hD];refine⟨fun z hz=>?_,by simp only[cC]; omega⟩
    simpa only[d_,or_self] using hz
   have s9:=aO f9 (HO.lst ((D3.map some).map qX));have e9:upd (upd H7 p8 (.lst (((zs.map tx).drop (i+1)).map V.str))) p9 (.lst ((D3.map some).map qX)) p9=some (.lst ((D3.map some).map qX)):=aA;have s89:=s8.trans s9;generalize upd (upd H7 p8 (.lst (((zs.map tx).drop (i+1)).map V.str))) p9 (.lst ((D3.map some).map qX))=H9 at s89 e9 ⊢
   obtain⟨os,eos,hos,los,l0⟩:∃os:List (Option Str),[V.non]++(D3.map some).map qX=os.map qX/\(∀o∈os,∀z,o=some z->z∈(zs.map tx).drop (i+1))/\os.length<=20/\1<=os.length:=by
    refine⟨none::D3.map some,rfl,?_,by have:=hD3.2; simp; omega,by simp⟩
    intro o ho z hz;rcases bB.mp ho with h | h
    ·rw[h] at hz; cases hz
    ·obtain⟨z',hz',ez⟩:=dZ.mp h;rw[<- ez] at hz;cases hz;exact hD3.1 _ hz'
   refine TV.of (s89 _ _ e7) e9 (by have:=hD3.2; simp only[fU,mX,bN]; omega) fun pb HA fb sA eA=>?_
   rw[eos] at eA;have s6A:=s7.trans (s89.trans sA);have enA:=s6A _ _ en6;have eA':=s6A _ _ e6;refine⟨.inl ⟨rfl,_,bT.of eA'⟩,?_⟩;refine⟨pb,_,rfl,.inl (bT.of eA),?_⟩;have tA:=t6.same s6A;refine cR.of tA ∅ (by rw[bN]; omega) (by rw[bN]; omega) fun d8 HB d80 d81 tB xB=>?_
   rw[bN] at d81;have pba:pb≠a:=(t6.same (s7.trans s89)).ne fb;have hd8:d8.toNat<os.length:=by omega
   refine Ix.lst (v:=qX os[d8.toNat]) (xB.get pba eA) (by
    have:=a_ (xs:=os.map qX) (j:=d8.toNat) (v:=qX os[d8.toNat]) (by rw[cA,cT hd8]; rfl)
    rwa [Int.toNat_of_nonneg d80] at this) ⟨⋯,fun pc HC fc sC eC=>?_⟩
   have eB':=xB.get Sg eA';have eC':=sC _ _ eB';have pca:pc≠a:=tB.ne fc;have kD:fJ HC (upd HC pr (.lst (us++[.ref pc]))):=fJ.putL eC';have k6D:=s6A.kp.trans ((Tq tA xB).trans (sC.kp.trans kD))
   have eD:upd HC pr (.lst (us++[.ref pc])) pc=some (.tup [V.str (tx zs[i]),pv,qX os[d8.toNat]]):=by
    rw[aH (fun z=>by rw[z,eC'] at eC; cases eC)]; exact eC
   have x6C:SX a H6 HC:=(SX.of s6A).trans (xB.trans (SX.of sC));have a7:=aa.snoc (aa.kp k6D _ _ (oY _) a6) (show At _ (Hx (tx zs[i],x,os[d8.toNat])) (.ref pc) from At.tup eD (aa.cons (At.str _) (aa.cons (At.kp k6D _ _ (rM _) ax) (aa.cons (V8 _) aa.nil))));refine(Eg pr us _ ⟨rfl,rfl,eC',by rw[lu]; exact aQ ∅,Sd (ts++[(tx zs[i],x,os[d8.toNat])]) (us++[.ref pc]) _ _ _ _ _ ⟨rfl,by rw[cC,lt]; rfl,by rw[cC,lu]; rfl,?_,?_,?_,?_,aA,?_,?_,?_⟩⟩)
   ·rw[gJ,Vf,cU (cT hiz),gJ]; rfl
   ·intro x' hx';rcases d_.mp hx' with h | h
    ·exact hps x' h
    ·rw[fV.mp h]; exact hx
   ·intro j x' z h1 h2;by_cases hj:j<ts.length
    ·rw[zj hj] at h1;exact hog j x' z h1 h2
    ·rw[vy ∅] at h1
     have hj':j-ts.length=0:=by
      cases c:j-ts.length with
      | zero=>rfl
      | succ c'=>rw[c] at h1; simp at h1
     rw[hj'] at h1;cases h1;have:j=i:=by omega
     subst this;exact hos _ (mZ hd8) z h2
   ·rw[aH prn.symm];exact sC _ _ (xB.get na enA)
   ·rw[gJ]; exact a7
   ·exact((tB.same sC).fW Sg).mono ∅
   ·exact(x5.trans (x6.trans x6C)).fW f4' Sg
  ·intro N hN;ext;refine cR.of t50 ∅ ⋯ ⋯ fun d6 H6 d60 d61 t6 x6=>?_
   ext;refine dW (fun c=>?_) (fun c=>?_)
   ·refine cR.of t6 ∅ ⋯ ⋯ fun d7 H7 d70 d71 t7 x7=>⟨⋯,fun q1 G1 f1 s1 g1=>?_⟩
    refine cR.of (t7.same s1) ∅ ⋯ ⋯ fun d8 H8 d80 d81 t8 x8=>?_
    refine cR.of t8 ∅ ⋯ ⋯ fun d9 H9 d90 d91 t9 x9=>⟨1,d9,rfl,rfl,⋯,fun q2 G2 f2 s2 g2=>?_⟩
    have q1a:q1≠a:=(t7.same s1).neT g1;have ax9:At H9 (gM x0) (.ref pv0):=At.kp ((Tq t50 x6).trans ((Tq t6 x7).trans (s1.kp.trans ((Tq (t7.same s1) x8).trans (Tq t8 x9))))) _ _ (rM _) (ax0.mono rR);refine uO (Av ax9) fun b v2 v5 v6 epv eb b2 b5 b6=>?_;cases epv;have eb2:=s2 _ _ eb;refine⟨pv0,_,rfl,eb2,fun q3 G3 s3 g3=>⟨q3,q2,_,_,rfl,rfl,g3,s3 _ _ g2,by show(5:Nat)<=sizeLine; decide,fun q4 G4 s4 g4=>⟨pv0,_,rfl,(s3.trans s4) _ _ eb2,fun q5 G5 s5 g5=>⟨q4,q5,_,_,rfl,rfl,s5 _ _ g4,g5,by show(7:Nat)<=sizeLine; decide,fun q6 G6 s6 g6=>?_⟩⟩⟩⟩
    have s26:=s2.trans (s3.trans (s4.trans (s5.trans s6)));have g16:=s26 _ _ (x9.get q1a (x8.get q1a g1));have k6:fJ H9 G6:=s26.kp;obtain⟨e9,he9⟩:∃e9:Nat,d8=(e9:Int):=⟨d8.toNat,∅⟩
    refine hN _ _ ⟨_,{ x0 with lo:=d7,hi:=12,a:=e9,e:=1+d9 },_,rfl,{ hx0 with lo:=⟨d70,by show d7<=12; omega⟩,hi:=by show(12:Int)<=12; decide,a:=by show e9<=4; omega,e:=⟨by show 1<=1+d9; omega,by show 1+d9<=6; omega⟩ },Xm (x:={ x0 with lo:=d7,hi:=12,a:=e9,e:=1+d9 }) (by rw[<- he9]; exact g6) (At.tup g16 (dD [d7,12])) (At.kp k6 _ _ rfl b5) (At.kp k6 _ _ (Qm _) b6),((t9.same s26).mono ∅),x50.trans (x6.trans (x7.trans ((SX.of s1).trans (x8.trans (x9.trans (SX.of s26))))))⟩
   ·exact hN _ _ ⟨_,x0,_,rfl,hx0,At.kp (Tq t50 x6) _ _ (rM _) (ax0.mono rR),t6.mono ∅,x50.trans x6⟩
 ·intro σ H5 El; refine KC El fun ts us o3 o4 o5 o6 o7 LQ lt lu Vf yO=>?_; clear El; subst LQ; refine nZ yO fun hps hog en5 e5 a5 Em=>?_; clear yO; obtain⟨t5,x5⟩:=Em;ext;rw[bN] at lt;have enm:ts.map (·.1)=zs.map tx:=by rw[Vf,bN,rJ]
  refine q pr ts us _ f4' Sg e5 a5 ∅ (fun t h=>⟨∅,∅,by rw[enm]; exact Pk ndz,fun x hx=>?_,fun j x z h1 h2=>by rw[enm]; exact hog j x z h1 h2,h⟩) hps (t5.mono (by rw[bN]; omega)) x5
  obtain⟨j,hj⟩:=Kr.mp hx;have h1:(zs.map tx)[j]?=some x.1:=by rw[<- enm,cA,hj]; rfl
  obtain⟨z,hz,e⟩:=dZ.mp (dC h1);exact⟨z,e.symm,gz z hz⟩
theorem rB{H:Hp}{x:gD}{v:V}(h:At H (kh x) v):∃a b c,v=.ref a/\H a=some (.tup [.int x.w,.int x.r,.ref b,.int x.s,.int x.t,.ref c])/\H b=some (.tup (x.cs.map V.int)):=by
 obtain⟨a,xs,rfl,h1,h2⟩:=aY h;obtain⟨x0,_,rfl,b0,h2⟩:=aa.aJ h2;obtain⟨x1,_,rfl,b1,h2⟩:=aa.aJ h2;obtain⟨x2,_,rfl,b2,h2⟩:=aa.aJ h2;obtain⟨x3,_,rfl,b3,h2⟩:=aa.aJ h2;obtain⟨x4,_,rfl,b4,h2⟩:=aa.aJ h2;obtain⟨x5,_,rfl,b5,h2⟩:=aa.aJ h2;cases aa.fH h2;unfold At at b0 b1 b3 b4;subst b0 b1 b3 b4;obtain⟨b,ys,rfl,eb,cb⟩:=aY b2;cases cF cb;obtain⟨c,zs,rfl,ec,_⟩:=aY b5;exact⟨a,b,c,rfl,h1,eb⟩
def VP:Sp:=fun vs H Q _=>∃(v:V)(s:gD),vs=[v]/\At H (kh s) v/\Hs s/\Q (.int (bZ s)) H
theorem wV:aV ["_law_stand"] ["_law_stand"] (aD tR):=(by walk_at "c")
theorem Jj(F:jL K "_law_ready" "_law_ready" tR f fd):bF P w K mg base iy (k+1) f fd ["_law_stand"] VP:=by
 refine F.ok wV (hbody:=fun cdv A outer sx H vs Q E hr h=>?_)
 obtain⟨v,st,rfl,a1,hs,q⟩:=h;have ND:=wV.nd;refine⟨_,(aF (aZ (aL bu (aU aP (pv 0) ao (fun _ _=>rfl)) (aU aP (aU aP (pv 0) ao (fun _ _=>rfl)) ao (fun _ _=>rfl))))),?_⟩;ext;obtain⟨a,b,c,rfl,e1,e2⟩:=rB a1;have c5:=hs.c
 have h0:yN (st.cs.map V.int) 0=some (.int (st.cs.getD 0 0)):=by
  have hl:0<st.cs.length:=by omega
  refine a_ (j:=0) ?_;rw[cA,cT hl,ig,cT hl];rfl
 exact Ix.tup e1 rfl (Ix.tup e1 rfl (Ix.tup e2 h0 ⟨_,_,rfl,rfl,q⟩))
def aae:Sp:=fun vs H Q _=>∃(v va vb vr:V)(fr:Int)(x:eO)(s s':gD)(r:Rw),vs=[v,va,vb,vr,.int fr]/\At H (gM x) v/\At H (kh s) va/\At H (kh s') vb/\At H (vU r) vr/\Lw x s s' r fr/\∀H',aK H H'->Q (.bl true) H'
theorem mC:aV ["_law_post_here","_law_ahead","_law_behind","_law_row_here","_law_free","_law_name","_law_come","_law_done","_law_away","_law_change","_law_spare","_law_hands"] AX (aD iW):=(by walk_at "c")
theorem vB(F:jL K "_law_post_right" "_law_post_right" iW f fd)(B:Bi mg)(Oe:Ct P w K mg base k "_law_ready" ["_law_stand"] VP):bF P w K mg base iy (k+1) f fd AX aae:=by
 refine F.ok mC (hbody:=fun cdv A outer sx H vs Q E hr h=>?_)
 obtain⟨v,va,vb,vr,fr,x,st,st',r,rfl,a1,a2,a3,a4,R,q⟩:=h;have ND:=mC.nd;refine⟨_,(aq (dN (pv 3) (bR (K:=K) (n:=5) rfl rfl (aB (aC (i:=5)) (aB (aC (i:=6)) (aB (aC (i:=7)) (aB (aC (i:=8)) (aB (aC (i:=9)) bC))))))) (aq (cN (PW.pt (rK (bf Az (pv 6) (aL gk (aL bu (aL bu (pv 7) (pv 8)) (aU aP (pv 2) ao (fun _ _=>rfl))) (aU aP (pv 1) ao (fun _ _=>rfl))) (bc _)) (lU (bf uQ (pb (cZ rfl) B.min jt (ak (pv 7) (ak (pv 8) aj))) ao (bc _))))) (aF (aZ pZ)) bI) (aq (aR (i:=10) (pb (gQ rfl) B.max oW (ak (aL gk (aU aP (pv 0) ao (fun _ _=>rfl)) (aU aP (pv 1) ao (fun _ _=>rfl))) (ak ao aj)))) (aq (cN (PW.pt (rK (bf Az (pv 8) (pb (gQ rfl) B.max oW (ak ao (ak (aL gk (pv 6) (pv 10)) aj))) (bc _)) (lU (bf Az (pv 7) (pb (cZ rfl) B.min jt (ak (aL gk (aL bu (aU aP (pv 1) ao (fun _ _=>rfl)) (pv 6)) (pv 8)) (ak (aL jg (pf Oe hr (ak (pv 1) aj)) (aU aP (pv 0) ao (fun _ _=>rfl))) aj))) (bc _))))) (aF (aZ pZ)) bI) (aq (Cy (i:=11) ND rfl (by walk_at "o") (N':=["_law_stand"]) (js:=[]) rfl (rN (K:=K) rfl (bA (ak (pv 1) (ak (pv 2) aj)))) sX.Ux rfl ⋯ rfl (fun fp s' H'=>(aL bu (aU aP (pv 0) ao (fun _ _=>rfl)) (pb (dH rfl) B.sum j6 (ak (aU aP (pv 0) ao (fun _ _=>rfl)) aj))))) (aF (aZ (CW (eX jh (aU aP (pv 11) ao (fun _ _=>rfl)) (aL bu (aU aP (pv 11) ao (fun _ _=>rfl)) (pv 9)) (bc _)) (CW (eX xV (aU aP (pv 11) ao (fun _ _=>rfl)) ao (bc _)) (Jb (eX xV (pv 9) (pv 4) (bc _)))))))))))),?_⟩
 obtain⟨a,b,c,rfl,ea,eb⟩:=rB a2;obtain⟨a',b',c',rfl,ea',eb'⟩:=rB a3;refine uP (Av a1) fun m v2 v5 v6 lC em _=>?_; subst lC;refine bG (aY a4) fun t ys cL et ay=>?_; subst cL;have ze:=aa.aJ ay; clear ay; refine bG ze fun y0 _ cL b0 ay=>?_; clear ze; subst cL;have ze:=aa.aJ ay; clear ay; refine bG ze fun y1 _ cL b1 ay=>?_; clear ze; subst cL;have ze:=aa.aJ ay; clear ay; refine bG ze fun y2 _ cL b2 ay=>?_; clear ze; subst cL;have ze:=aa.aJ ay; clear ay; refine bG ze fun y3 _ cL b3 ay=>?_; clear ze; subst cL;have ze:=aa.aJ ay; clear ay; refine bG ze fun y4 _ cL b4 ay=>?_; clear ze; subst cL;cases aa.fH ay;unfold At at b0 b1 b2 b3 b4;subst b0 b1 b2 b3 b4;obtain⟨Rd,Ra,Rw',Rc,Rw0,Rh,S12,R12,Rf,px,sn,sn'⟩:=R;have tk:=J8 (x:=x) (st:=st) Rc;have rr:=Ft sn;have pp:=px.p;have hm:bZ st*x.p=bZ st*x.p:=rfl;have g0:0<=bZ st*x.p:=Int.mul_nonneg rr.1 ∅
 have gb:bZ st*x.p<=10 ^ 60:=by
  calc bZ st*x.p<=12*1000000:=Int.mul_le_mul ∅ pp.2 ∅ ⋯
   _<=10 ^ 60:=by decide
 have dd:r.d=if bZ st*x.p<st.w+cu x st r.c then bZ st*x.p else st.w+cu x st r.c:=Rd
 have td:cu x st r.c=if(if 0>x.m-st.w then 0 else x.m-st.w)<r.c then(if 0>x.m-st.w then 0 else x.m-st.w) else r.c:=rfl
 rw[<- Rd] at Rw';ext;have hcm:R9 (bZ st) x.p:=.inl ⟨∅,∅⟩
 have qa:r.a=if r.c-(if 0>x.m-st.w then 0 else x.m-st.w)>0 then r.c-(if 0>x.m-st.w then 0 else x.m-st.w) else 0:=by
  rw[Ra,td]
  repeat' split <;> omega
 have qd:r.d=if bZ st*x.p<st.w+r.c-r.a then bZ st*x.p else st.w+r.c-r.a:=by
  rw[dd,Ra];generalize bZ st*x.p=g;have:st.w+r.c-(r.c-cu x st r.c)=st.w+cu x st r.c:=by omega
  rw[this]
 have d0:0<=r.d:=by
  rw[dd]; split <;> omega
 refine⟨t,_,rfl,fK.of et,rfl,?_⟩;ext;refine Ix.tup ea' rfl (jM _ _ ⟨rfl,rfl,Ix.tup ea rfl (jM _ _ ⟨rfl,rfl,?_⟩)⟩);rw[aX (by simp; omega),aX (by simp; split <;> omega)]
 refine Ix.tup em rfl (Ix.tup ea rfl ⟨_,_,rfl,rfl,?_⟩);rw[aX (by simp only[Bool.not_eq_true',decide_eq_false_iff_not,Decidable.not_not]; exact qa)]
 refine Ix.tup ea rfl ⟨_,_,rfl,rfl,⟨.ref a,st,rfl,a2,sn,Ix.tup em rfl ⟨_,_,rfl,rfl,hcm,?_⟩⟩⟩;rw[aX (by simp only[Bool.not_eq_true',decide_eq_false_iff_not,Decidable.not_not]; exact qd)]
 rw[tE];ext;refine⟨⋯,fun p H1 f1 s1 e1=>?_⟩
 refine Dw (ds:=[kh st,kh st']) (f:=fun i=>if i=0 then hnd st else hnd st') (fun R h=>h) e1 ((aa.cons a2 (aa.cons a3 aa.nil)).mono s1) (by show(2:Nat)<=sizeLine; decide) (fun i z d H2 s2 hd hz R q'=>?_) (fun acc H2 s2 e2=>?_)
 ·have st_:∀{s:gD},At H2 (kh s) z->(∀dF,aK H2 dF->R (.int (hnd s)) dF)->yV z (V.int 1) H2 fun x H1=>yV z (V.int 2) H1 fun y H1=>∃p ns,[y]=[V.ref p]/\(H1 p=some (HO.lst (List.map V.int ns))\/H1 p=some (HO.tup (List.map V.int ns)))/\∃i j,x=V.int i/\V.int ns.sum=V.int j/\R (V.int (i+j)) H1:=fun hz q'=>by
   obtain⟨b1,b2,b3,rfl,g1,g2⟩:=rB hz;exact Ix.tup g1 rfl (Ix.tup g1 rfl ⟨b2,_,rfl,.inr g2,_,_,rfl,rfl,q' _ (aK.refl _)⟩)
  ext
  match i,hd with
  | 0,hd=>cases hd; exact st_ hz q'
  | 1,hd=>cases hd; exact st_ hz q'
 ·refine Ix.lst e2 (v:=.int (hnd st')) rfl (Ix.lst e2 (v:=.int (hnd st)) rfl ⟨_,_,rfl,rfl,?_⟩);rw[jW];refine⟨_,rfl,?_⟩;rw[bh (by simp; omega)]
  refine Ix.lst e2 (v:=.int (hnd st')) rfl ⟨_,_,rfl,rfl,?_⟩;rw[bh (by simp; omega),show decide (r.h<=fr)=true by simp; omega]
  exact q _ (s1.trans s2)
theorem rw_five{H:Hp}{r:Rw}{v:V}(h:At H (vU r) v):∃b,v=.ref b/\H b=some (.tup [.str r.n,.int r.c,.int r.d,.int r.a,.int r.h]):=by
 obtain⟨t,ys,rfl,et,ay⟩:=aY h;obtain⟨y0,_,rfl,b0,ay⟩:=aa.aJ ay;obtain⟨y1,_,rfl,b1,ay⟩:=aa.aJ ay;obtain⟨y2,_,rfl,b2,ay⟩:=aa.aJ ay;obtain⟨y3,_,rfl,b3,ay⟩:=aa.aJ ay;obtain⟨y4,_,rfl,b4,ay⟩:=aa.aJ ay;cases aa.fH ay;unfold At at b0 b1 b2 b3 b4;subst b0 b1 b2 b3 b4;exact⟨t,rfl,et⟩
structure BR(tot:Int)(ts:List T3)(ss:List gD)(y:Yd)(rs:List Rw):Prop where
 l1:rs.length=ts.length
 l2:ss.length=ts.length
 n:y.ns=ts.map (·.1)
 r:∀(j:Nat) r t s s',rs[j]?=some r->ts[j]?=some t->ss[j]?=some s->y.ss[j]?=some s'->r.n=t.1/\Lw t.2.1 s s' r (Yk (tot-(hands ss+hsum (rs.take j))))
 h:hands y.ss=hands ss+hsum rs
 t:hands y.ss<=tot
def aag(C:Addr):Sp:=fun vs H Q _=>∃(A:Ya)(y:Yd)(tot:Int)(qr p pa:Addr)(us xs zs:List V)(ts:List T3)(rs:List Rw)(ss:List gD),vs=[.ref A.p,.int tot,.ref qr,.ref p,.ref pa]/\bM C H A y/\dX y/\H qr=some (.lst us)/\aa H (ts.map Hx) us/\H p=some (.lst xs)/\aa H (rs.map vU) xs/\H pa=some (.lst zs)/\aa H (ss.map kh) zs/\BR tot ts ss y rs/\∀H',aK H H'->Q (.bl true) H'
theorem mD:aV ["_law_yard","_law_total","_law_rows_here","_law_line","_law_ahead","_law_hands","_law_name","_law_post_here","_law_onward","_law_row_here","_law_stand","_law_free","_law_behind"] AY (aD iY):=(by walk_at "c")
theorem vC{C:Addr}(F:jL K "_law_beat_right" "_law_beat_right" iY f fd)(B:Bi mg)(Z:ZY K C)(yI:Ct P w K mg base k "_law_post_right" AX aae)(cg:Ek P w K mg base k C "stand" AW (Fi C gS))(dI:Ek P w K mg base k C "hands" AV (Xb C)):bF P w K mg base iy (k+1) f fd AY (aag C):=by
 refine F.ok mD (by intro vs H Q E yL; refine Xj yL fun A y tot qr p pa us xs zs ts rs ss En _=>?_; clear yL; subst En; rfl) (fun cdv A' outer s H vs Q E hr h=>?_)
 refine T4 h fun A y tot qr p pa us xs zs ts rs ss En YA YO er ar ep ax ea az R q=>?_; clear h; subst En;have ND:=mD.nd;refine⟨_,(aq (cN (PW.pt (rK (n_ (gK (pb U5 B.isinstance qg (ak (pv 3) (ak (pty (by rfl) B.list my) aj))))) (lU (bf Az (pb (cB (K:=K) rfl) B.len dU (ak (pv 3) aj)) (pb (cB (K:=K) rfl) B.len dU (ak (pv 2) aj)) (bc _))))) (aF (aZ pZ)) bI) (aq (aR (i:=5) (pb (dH rfl) B.sum j6 (ak (cX (N':=["_law_stand"]) (js:=[]) rfl (kW (K:=K) rfl (pv 4)) sX.Ux rfl ⋯ rfl (fun fp s' H'=>(aL bu (aU aP (pv 0) ao (fun _ _=>rfl)) (pb (dH rfl) B.sum j6 (ak (aU aP (pv 0) ao (fun _ _=>rfl)) aj))))) aj))) (aq (gO PassesOwn.never rfl (Ub (K:=K) rfl B.zip (ak (pv 2) (ak (pv 3) (ak (pv 4) aj)))) (bR (K:=K) (n:=3) rfl rfl (aB (bR (K:=K) (n:=3) rfl rfl (aB (aC (i:=6)) (aB (aC (i:=7)) (aB (aC (i:=8)) bC)))) (aB (aC (i:=9)) (aB (aC (i:=10)) bC)))) (aq (t_ (i:=11) (j:=12) rfl ND rfl rfl ⋯ rfl rfl (ak (pb (cZ rfl) B.min jt (ak ao (ak (aL gk (pv 1) (pv 5)) aj))) (ak (pm cg hr (pv 0) (ak (pv 6) aj)) aj)) (by rfl)) (aq (cN (PW.pt (rK (bf Az (aU aP (pv 9) ao (fun _ _=>rfl)) (pv 6) (bc _)) (lU (n_ (gK (pf yI hr (ak (pv 7) (ak (pv 10) (ak (pv 12) (ak (pv 9) (ak (pv 11) aj))))))))))) (aF (aZ pZ)) bI) (aF (aR (i:=5) (aL bu (pv 5) (aU aP (pv 9) ao (fun _ _=>rfl)))))))) (aF (aZ (CW (eX xV (pv 5) (pv 1) (bc _)) (Jb (eX jh (pm0 dI hr (pv 0)) (pv 5) (bc _))))))))),?_⟩
 have n5:=YO.n5;have lu:=ar.length;have lx:=ax.length;have lz:=az.length;rw[bN] at lu lx lz;have l1:=R.l1;have l2:=R.l2;have ln:y.ns.length=ts.length:=by rw[R.n,bN]
 simp only[Qi];ext;refine uz.of (R:=fun σ' H'=>σ'=[some (.ref A.p),some (.int tot),some (.ref qr),some (.ref p),some (.ref pa),none,none,none,none,none,none,none,none]/\H=H') ?_ ?_
 rotate_left
 ·intro N hN;ext;refine(jM (.ref p) (.list (rs.map vU)) ⟨rfl,At.lst ep ax,?_⟩);refine⟨true,rfl,?_⟩;rw[aX ⋯]
  refine(jM p _ ⟨rfl,.inl (bT.of ep),jM qr _ ⟨rfl,.inl (bT.of er),?_⟩⟩);ext;rw[aX (by rw[lx,lu,l1]; simp)]
  exact hN _ _ ⟨rfl,rfl⟩
 rintro σ' H' ⟨rfl,rfl⟩;ext;refine iK ((ss.map hnd).map .int) (fun R h=>h) ea (by rw[bN,bN]; omega) ∅ (gq _) (fun i x d H1 hx hd s1 R q'=>?_) fun acc vs H1 f1 s1 e1 av=>?_
 ·refine xO ((az.mono s1).get hx) fun d' hd' hz=>?_
  have hss:∃z,ss[i]?=some z/\d=.int (hnd z)/\d'=kh z:=by
   rw[cA] at hd';rw[cA,cA] at hd;cases e:ss[i]? with
   | none=>rw[e] at hd; cases hd
   | some z=>rw[e] at hd hd'; cases hd; cases hd'; exact⟨z,rfl,rfl,rfl⟩
  refine mL hss fun z _ cL iQ=>?_; clear hss; subst cL; subst iQ;refine aaC (rB hz) fun b1 b2 b3 iQ g1 g2=>?_; subst iQ;ext;exact Ix.tup g1 rfl (Ix.tup g1 rfl (jM b2 _ ⟨rfl,.inr g2,jM _ _ ⟨rfl,rfl,q' _ _ (aK.refl _) (At.int _)⟩⟩))
 cases cF av;refine(jM acc _ ⟨rfl,.inl e1,?_⟩);rw[My];ext;refine Z3L.ofN (s1 _ _ er) (s1 _ _ ep) (s1 _ _ ea) ∅ ∅ (fun i σ H'=>∃o6 o7 o8 o9 o10 QS Nq,σ=[some (.ref A.p),some (.int tot),some (.ref qr),some (.ref p),some (.ref pa),some (.int (hands ss+hsum (rs.take i))),o6,o7,o8,o9,o10,QS,Nq]/\aK H1 H')
  (Sd _ _ _ _ _ _ _ ⟨by rw[List.take_zero,show hsum []=0 from rfl,Int.add_zero]; rfl,aK.refl _⟩) (fun i σ H' _ hP=>by refine Qv hP fun _ _ _ _ _ _ _ _ s2=>?_; clear hP; exact⟨(s1.trans s2) _ _ er,(s1.trans s2) _ _ ep,(s1.trans s2) _ _ ea⟩) ?_ ?_
 ·intro i x r0 z0 σ H2 pt hx hr0 hz0 LC fp N hN; refine Qv LC fun o6 o7 o8 o9 o10 QS Nq LQ s2=>?_; clear LC; subst LQ;have s3:=aO fp (HO.tup [x,r0,z0]);have et:upd H2 pt (HO.tup [x,r0,z0]) pt=some (HO.tup [x,r0,z0]):=aA;generalize upd H2 pt (HO.tup [x,r0,z0])=H3 at s3 et ⊢;have Cj:=s1.trans (s2.trans s3);refine xO ((ar.mono Cj).get hx) fun dx hdx ax3=>?_;refine xO ((ax.mono Cj).get hr0) fun dr hdr ar3=>?_;refine xO ((az.mono Cj).get hz0) fun dz hdz az3=>?_;rw[cA] at hdx hdr hdz;cases et_:ts[i]? with
  | none=>rw[et_] at hdx; cases hdx
  | some t=>
  cases er_:rs[i]? with
  | none=>rw[er_] at hdr; cases hdr
  | some r=>
  cases ez_:ss[i]? with
  | none=>rw[ez_] at hdz; cases hdz
  | some st=>
  rw[et_] at hdx;rw[er_] at hdr;rw[ez_] at hdz;cases hdx;cases hdr;cases hdz;refine bG (Fg ax3) fun ta vp cL eta avp=>?_; subst cL;have hi:i<ts.length:=(jF.mp et_).1;have hin:y.ns[i]?=some t.1:=by rw[R.n,cA,et_]; rfl
  have lss:=YO.ls;obtain⟨st',es'⟩:∃s',y.ss[i]?=some s':=⟨_,cT ∅⟩
  obtain⟨rn,PR⟩:=R.r i r t st st' er_ et_ ez_ es';refine(jM pt _ ⟨rfl,fK.of et,rfl,?_⟩);ext;refine(jM ta _ ⟨rfl,fK.of eta,rfl,?_⟩);ext
  have fe:(if tot-(hands ss+hsum (rs.take i))<12 then tot-(hands ss+hsum (rs.take i)) else 12)=Yk (tot-(hands ss+hsum (rs.take i))):=by
   unfold Yk
   repeat' split <;> omega
  rw[fe];have Y3:=YA.mono Cj;refine Me.of (m:="stand") (R:=fun p=>_) Y3 (fun _ _ _ _ _ _ _=>rfl) (BW A y i t.1 (kh st') ⟨rfl,Y3,YO,hin,by show(y.ss.map kh)[i]?=_; rw[cA,es']; rfl,fun v4 H4 s4 a4=>(jM _ _ ⟨rfl,?_⟩)⟩)
  refine xO (rw_five ar3) fun rb R_ erb=>?_; subst R_;refine uz.of (R:=fun σ' H'=>σ'=[some (.ref A.p),some (.int tot),some (.ref qr),some (.ref p),some (.ref pa),some (.int (hands ss+hsum (rs.take i))),some (.str t.1),some vp,some (qX t.2.2),some (.ref rb),some z0,some (.int (Yk (tot-(hands ss+hsum (rs.take i))))),some v4]/\aK H4 H') ?_ ?_
  ·rintro σ5 H5 ⟨rfl,s5⟩;ext;refine Ix.tup (s5 _ _ (s4 _ _ erb)) rfl (jM _ _ ⟨rfl,rfl,?_⟩);exact hN _ _ (Sd _ _ _ _ _ _ _ ⟨by rw[cU er_,Bd,<- Int.add_assoc],s2.trans (s3.trans (s4.trans s5))⟩)
  ·intro N' hN';ext;refine Ix.tup (s4 _ _ erb) rfl ?_;rw[nU];refine⟨_,rfl,?_⟩;rw[aX (by simp[rn])]
   refine(xi9 vp z0 v4 (.ref rb) _ t.2.1 st st' r ⟨rfl,avp.mono s4,az3.mono s4,a4,ar3.mono s4,PR,fun H5 s5=>⟨_,rfl,?_⟩⟩);rw[aX ⋯]
   exact hN' _ _ ⟨rfl,s5⟩
 ·intro σ H2 Hw; refine Qv Hw fun o6 o7 o8 o9 o10 QS Nq LQ s2=>?_; clear Hw; subst LQ;rw[Qp ∅]
  ext;have hh:=R.h;have ht:=R.t;rw[bh (by simp; omega)]
  have Y3:=YA.mono (s1.trans s2);refine Me.of (m:="hands") (R:=fun p=>_) Y3 (fun _ _ _ _ _ _ _=>rfl) ⟨A,y,rfl,Y3,YO,fun H4 s4=>?_⟩;show Xi _ _ _ _;rw[jW,show decide (hands y.ss=hands ss+hsum rs)=true by simp; omega]
  exact q _ (s1.trans (s2.trans s4))
theorem TF(r:Nat)(c:Int):(List.replicate r [V.int c]).flatten=(List.replicate r c).map V.int:=by
 induction r with
 | zero=>rfl
 | succ r ih=>rw[Cv,IV,ih,Cv,gH]; rfl
theorem TQ(r:Nat)(l:List Int):(List.replicate r (l.map V.int)).flatten=(List.replicate r l).flatten.map V.int:=by
 induction r with
 | zero=>rfl
 | succ r ih=>rw[Cv,IV,ih,Cv,IV,gJ]
structure LdG(b:Nat)(l:List Int):Prop where
 n:l.length=b
 u:∀c∈l,Wu c
structure Ww(as qs:List Addr)(gU:List (List Int))(b:Nat)(H H':Hp):Prop where
 l:qs.length=gU.length
 f:∀q∈qs,H q=none/\q∉as
 d:qs.Nodup
 g:∀l∈gU,LdG b l
 e:∀(j:Nat) q l,qs[j]?=some q->gU[j]?=some l->H' q=some (.lst (l.map V.int))
def VR:Sp:=fun vs H Q _=>∃(lt:Addr)(as:List Addr)(m b N:Nat),vs=[.ref lt,.int m,.int b]/\H lt=some (.lst (as.map V.ref))/\lt∉as/\1<=as.length/\wu H as N/\N<=10000000/\m<=5/\b<=300 /\
 ∀p qs gU H',H p=none->p∉as->p∉qs->H' p=some (.lst (qs.map V.ref))->gU.length=m->Ww as qs gU b H H'->wu H' as (N+300*m)->Eh as H H'->Q (.ref p) H'
theorem wX:aV ["_law_tapes","_law_many","_law_beats","_law_loads_here","_law_k","_law_tape_here","_law_load","_law_piece","_law_come"] AZ (aD tV):=(by walk_at "c")
theorem Jl(F:jL K "_law_loads" "_law_loads" tV f fd)(B:Bi mg)(aM:Ct P w K mg base k "_law_draw" AL il)(lB:Ct P w K mg base k "_law_units" AM rC):bF P w K mg base iy (k+1) f fd AZ VR:=by
 refine F.ok wX (hbody:=(0:))
 refine mK h fun lt as m b N BK elt nlt las tps uZ=>?_; clear h; subst BK; obtain⟨hN,hm,hb,q⟩:=uZ;have ND:=wX.nd;refine⟨_,(aq (aR (i:=3) (cG aj)) (aq (gO PassesOwn.never rfl (eV (by rfl) B.range (ak (pv 1) aj)) (aC (i:=4)) (aq (t_ (i:=5) (j:=6) rfl ND rfl rfl ⋯ rfl rfl (ak (aU aP (pv 0) (aL jX (pv 4) (pb (cB (K:=K) rfl) B.len dU (ak (pv 0) aj))) (fun _ _=>rfl)) (ak (cG aj) aj)) (by rfl)) (aq (gO PassesOwn.never rfl (eV (by rfl) B.range (ak ao aj)) (aC (i:=7)) (aq (aR (i:=8) (aU aP (cG (ak (pf aM hr (ak (pv 5) (ak ao aj))) (ak (pf lB hr (ak (pv 5) aj)) (ak ao aj)))) (pf aM hr (ak (pv 5) (ak ao aj))) (fun _ _=>rfl))) (aF (aR (i:=6) (aL QL (pv 6) (aL Jf (cG (ak (pv 8) aj)) (aL bu ao (pf aM hr (ak (pv 5) (ak ao aj)))))))))) (aF (dq (lW (K:=K) rfl PySem.F.plainAttrs_list PySem.F.slot_list_append PySem.F.type_list_append eZ (pv 3) (ak (cY Ce (aL Jf (pv 6) ao) eU (eQ (pv 2))) aj))))))) (aF (aZ (pv 3))))),?_⟩
 ext;refine⟨⋯,fun pl H1 f1 s1 e1=>?_⟩
 rw[m_];ext;have npl:pl∉as:=tps.new f1;have ac_:=tps.same s1;refine FK.ofN (n:=m) rfl ∅ (fun i σ H'=>∃qs gU o4 o5 o6 o7 o8,σ=[some (.ref lt),some (.int m),some (.int b),some (.ref pl),o4,o5,o6,o7,o8]/\gU.length=i/\Ww as qs gU b H H'/\pl∉qs/\H' pl=some (.lst (qs.map V.ref))/\wu H' as (N+300*i)/\Eh as H H')
  (Sd ([]) ([]) _ _ _ _ _ ⟨rfl,rfl,⟨rfl,by simp,List.nodup_nil,by simp,fun j q l h=>by simp at h⟩,by simp,e1,ac_,Eh.of s1⟩) ?_ ?_
 ·intro i σ H2 hi wz M hM; refine KC wz fun qs gU o4 o5 o6 o7 o8 LQ ll LA pq yO=>?_; clear wz; subst LQ; obtain⟨e2,Tn,x2⟩:=yO;ext;have abm:=x2 _ _ nlt elt;obtain⟨a,ha⟩:∃a,as[i % as.length]?=some a:=⟨_,cT (Nat.mod_lt _ ∅)⟩
  have hma:=dC ha;refine(jM lt _ ⟨rfl,.inl (bT.of abm),jM _ _ ⟨rfl,rfl,by rw[bN]; omega,?_⟩⟩)
  refine Ix.lst abm (v:=.ref a) (by
   rw[bN,show(0+(i:Int)) % (as.length:Int)=((i % as.length:Nat):Int) by rw[Int.zero_add]; rfl]
   exact a_ (by rw[cA,ha]; rfl)) ⟨⋯,fun ql H3 f3 s3 e3=>⟨_,_,rfl,?_⟩⟩
  have ac8:=Tn.same s3;have nql:=Tn.new f3;rw[m_];ext;refine FK.ofN (n:=40) rfl ∅ (fun j σ' H'=>∃(ql:Addr)(l:List Int)(o7 o8:Option V),σ'=[some (.ref lt),some (.int m),some (.int b),some (.ref pl),some (.int (0+(i:Nat))),some (.ref a),some (.ref ql),o7,o8]/\H' ql=some (.lst (l.map V.int))/\ql∉as/\j<=l.length/\l.length<=30*j/\(∀c∈l,Wu c)/\wu H' as (N+300*i+7*j)/\Eh as H3 H')
    (uw ql ([]) _ _ ⟨rfl,e3,nql,by simp,by simp,by simp,ac8,Eh.refl _ _⟩) ?_ ?_
  ·intro j σ' H4 hj LC M2 hM2; refine uO LC fun ql l o7 o8 lC e4 nq4 l1 Ef=>?_; clear LC; subst lC; obtain⟨l2,u4,wJ,x4⟩:=Ef;obtain⟨n,hn,tp4⟩:=wJ.tp a hma;ext;have qla:ql≠a:=fun z=>nq4 (z▸hma);refine cR.of tp4 ∅ ⋯ ⋯ fun d1 G1 d10 d11 t1 y1=>?_
   refine R4.of t1 ∅ fun d2 G2 d20 d21 t2 y2=>⟨⋯,fun p1 G3 g3 z3 v3=>?_⟩
   have t3:=t2.same z3;have p1a:p1≠a:=t2.ne g3;refine cR.of t3 ∅ ⋯ ⋯ fun d3 G4 d30 d31 t4 y4=>?_
   obtain⟨c,hc,hU⟩:∃c,yN [V.int d1,V.int d2,V.int 0] d3=some (.int c)/\Wu c:=by
    have:d3=0\/d3=1\/d3=2:=by omega
    rcases this with rfl | rfl | rfl
    ·exact⟨d1,rfl,d10,∅⟩
    ·exact⟨d2,rfl,d20,d21⟩
    ·exact⟨0,rfl,⋯,⋯⟩
   refine Ix.lst (y4.get p1a v3) hc ⟨⋯,fun p2 G5 g5 z5 v5=>?_⟩
   have t5:=t4.same z5;have p2a:p2≠a:=t4.ne g5;refine cR.of t5 ∅ ⋯ ⋯ fun d5 G6 d50 d51 t6 y6=>⟨_,_,rfl,rfl,?_⟩
   have x46:SX a H4 G6:=y1.trans (y2.trans ((SX.of z3).trans (y4.trans ((SX.of z5).trans y6))));obtain⟨r,hr,r1,r30⟩:∃r:Nat,1+d5=(r:Int)/\1<=r/\r<=30:=⟨(1+d5).toNat,∅,∅,∅⟩
   rw[hr];refine⟨p2,_,_,rfl,rfl,y6.get p2a v5,∅,∅,nY (aQ (by show 1*_<=1000; omega)),fun p3 g3'=>?_⟩
   rw[xF,TF];have z7:=aO g3' (HO.lst ((List.replicate r c).map V.int));have Tj:=wJ.draw (M:=N+300*i+7*(j+1)) x46 t6 ∅ ∅
   refine⟨ql,p3,_,_,rfl,rfl,z7 _ _ (x46.get qla e4),aA,?_,fun p4 g4=>?_⟩
   ·rw[bN,bN,pM];exact iH (by omega:_<=2000) ⋯
   have z8:=aO g4 (HO.lst (l.map V.int++(List.replicate r c).map V.int));refine hM2 _ _ (uw p4 (l++List.replicate r c) _ _ ⟨rfl,by rw[gJ]; exact aA,(Tj.same z7).new g4,by rw[cC,pM]; omega,by rw[cC,pM]; omega,fun x hx=>?_,(Tj.same z7).same z8,x4.trans ((Eh.one hma x46).trans (Eh.of (z7.trans z8)))⟩)
   rcases d_.mp hx with h | h
   ·exact u4 x h
   ·rw[(List.mem_replicate.mp h).2]; exact hU
  ·intro σ' H4 El; refine uO El fun ql l o7 o8 lC e4 _ l1 Ef=>?_; clear El; subst lC; obtain⟨l2,u4,wJ,x4⟩:=Ef;ext;have ep4:=x4 _ _ npl (s3 _ _ e2);refine⟨.inl ⟨rfl,_,bT.of ep4⟩,ql,8,_,rfl,rfl,e4,⋯,⋯,?_,fun p1 g1=>?_⟩
   ·rw[bN];exact iH (show _*8<=10000 by omega) ⋯
   rw[show(8:Int).toNat=8 from rfl,TQ];have z1:=aO g1 (HO.lst ((List.replicate 8 l).flatten.map V.int));refine⟨p1,_,rfl,bT.of aA,fun p2 g2=>?_⟩;rw[yD ∅,xF,<- List.map_take]
   have z2:=aO g2 (HO.lst (((List.replicate 8 l).flatten.take b).map V.int))
   have Ro:H4 p2=none:=by
    cases h:H4 p2 with
    | none=>rfl
    | some o=>rw[z1 _ _ h] at g2; cases g2
   have f2':H p2=none/\p2∉as:=by
    have n2:=wJ.new Ro;refine⟨?_,n2⟩;cases h:H p2 with
    | none=>rfl
    | some o=>rw[x4 _ _ n2 (s3 _ _ (x2 _ _ n2 h))] at Ro; cases Ro
   have v2:upd (upd H4 p1 (.lst ((List.replicate 8 l).flatten.map V.int))) p2 (.lst (((List.replicate 8 l).flatten.take b).map V.int)) p2=some (.lst (((List.replicate 8 l).flatten.take b).map V.int)):=aA;have z12:=z1.trans z2;generalize upd (upd H4 p1 (.lst ((List.replicate 8 l).flatten.map V.int))) p2 (.lst (((List.replicate 8 l).flatten.take b).map V.int))=G at z12 v2 ⊢;have p2l:p2≠pl:=fun z=>by rw[z,ep4] at Ro; cases Ro
   have old:∀q o,q∉as->H2 q=some o->G q=some o:=fun q o n h=>z12 _ _ (x4 _ _ n (s3 _ _ h));have adW:(List.replicate 8 l).flatten.length=8*l.length:=len_rep l 8;refine⟨pl,_,_,rfl,rfl,z12 _ _ ep4,?_,hM _ _ (Sd (qs++[p2]) (gU++[(List.replicate 8 l).flatten.take b]) _ _ _ _ _ ⟨rfl,by rw[cC,ll]; rfl,⟨?_,?_,?_,?_,?_⟩,?_,by rw[gJ]; exact aA,?_,?_⟩)⟩
   ·rw[bN,LA.l];exact aQ ∅
   ·rw[cC,cC,LA.l]; rfl
   ·intro q' hq;rcases d_.mp hq with h | h
    ·exact LA.f q' h
    ·rw[fV.mp h]; exact f2'
   ·rw[vh];refine⟨LA.d,by simp,fun x hx y hy=>?_⟩
    rw[fV.mp hy];intro z;obtain⟨j,hj⟩:=Kr.mp hx;have hjl:j<gU.length:=by rw[<- LA.l]; exact(jF.mp hj).1
    have:=LA.e j x _ hj (cT hjl);rw[z] at this;rw[x4 _ _ f2'.2 (s3 _ _ this)] at Ro;cases Ro
   ·intro l' hl';rcases d_.mp hl' with h | h
    ·exact LA.g l' h
    ·rw[fV.mp h];refine⟨by rw[kI,adW]; omega,fun c hc=>?_⟩
     have:=FQ hc;obtain⟨l2',h1,h2⟩:=List.mem_flatten.mp this;rw[(List.mem_replicate.mp h1).2] at h2;exact u4 c h2
   ·intro j q' l' h1 h2;by_cases hj:j<qs.length
    ·rw[zj hj] at h1;rw[zj (by rw[<- LA.l]; exact hj)] at h2
     have hq':=dC h1;have nq:q'≠pl:=fun z=>pq (z▸hq');rw[aH nq];exact old _ _ (LA.f _ hq').2 (LA.e j q' l' h1 h2)
    ·rw[vy ∅] at h1
     rw[vy (by rw[<- LA.l]; omega),<- LA.l] at h2
     have hj':j-qs.length=0:=by
      have:=(jF.mp h1).1;simp at this; omega
     rw[hj'] at h1 h2;cases h1;cases h2;rw[aH p2l]; exact v2
   ·intro h;rcases d_.mp h with h | h
    ·exact pq h
    ·exact p2l (fV.mp h).symm
   ·have:=(wJ.same z12).mono (M:=N+300*(i+1)) ∅
    exact⟨fun c hc=>by
     obtain⟨n,hn,t⟩:=this.tp c hc
     exact⟨n,hn,t.fW (fun z=>npl (z▸hc))⟩⟩
   ·intro c o n h;have cpl:c≠pl:=fun z=>by rw[z,f1] at h; cases h
    rw[aH cpl];exact old _ _ n (x2 _ _ n h)
 ·rintro σ H2 ⟨qs,gU,o4,o5,o6,o7,o8,rfl,ll,LA,pq,e2,Tn,x2⟩;ext;exact q pl qs gU H2 f1 npl pq e2 ll LA Tn x2
def RwG(ns:List Str)(r:Rw):Prop:=RwB r/\r.n∈ns
structure LnG(ns:List Str)(rs:List Rw):Prop where
 l:rs.length=ns.length
 g:∀r∈rs,RwG ns r
def dR(f:Rw->Int)(pa:List (List Rw))(j:Nat):Int:=(pa.map fun rs=>((rs[j]?).map f).getD 0).sum
theorem um{f:Rw->Int}{pa:List (List Rw)}{rs:List Rw}{j:Nat}{r:Rw}(h:rs[j]?=some r):dR f (pa++[rs]) j=dR f pa j+f r:=by
 unfold dR;rw[gJ,List.sum_append];simp[h]
structure YK(y:Yd):Prop where
 nw:NW y
 ln:∀rs∈y.pa,LnG y.ns rs
 sm:∀j t,y.ts[j]?=some t->t=[dR Rw.c y.pa j,dR Rw.d y.pa j,dR Rw.a y.pa j]
theorem lookup_mem{cs:List (Str×Int)}{n:Str}{c:Int}(h:cs.lookup n=some c):(n,c)∈cs:=by
 induction cs with
 | nil=>simp at h
 | cons q cs ih=>
  obtain⟨m,v⟩:=q;rw[lR] at h;by_cases e:n=m
  ·subst e;rw[beq_self_eq_true] at h;cases h;exact dg ..
  ·rw[beq_false_of_ne e] at h;exact cI _ (ih h)
theorem abx{ns:List Str}{cs:List (Str×Int)}(h:∀q∈cs,0<=q.2/\q.2<=1000000000000):∀c∈oO ns cs,0<=c/\c<=1000000000000:=fun c hc=>by
 obtain⟨n,_,rfl⟩:=dZ.mp hc;cases e:cs.lookup n with
 | none=>exact⟨⋯,⋯⟩
 | some v=>exact h _ (lookup_mem e)
theorem YK.Vp{y:Yd}{cs:List (Str×Int)}(YO:dX y)(h:YK y)(hc:∀q∈cs,0<=q.2/\q.2<=1000000000000):YK (yM y cs)/\LnG y.ns (qi y cs):=by
 have R:=Ql YO h.nw (abx (ns:=y.ns) hc) y.ns.length (bw _);have F:=cH y (oO y.ns cs) y.ns.length;have L:LnG y.ns (qi y cs):=⟨R.l,fun r hr=>⟨R.b r hr,abA r hr⟩⟩;refine⟨⟨⟨R.n.w,R.n.t⟩,fun rs hrs=>?_,fun j t ht=>?_⟩,L⟩
 ·show LnG (aW y (oO y.ns cs) y.ns.length).1.ns rs;rw[F.n];rcases d_.mp (show rs∈y.pa++[qi y cs] from hrs) with h' | h'
  ·exact h.ln rs h'
  ·rw[fV.mp h']; exact L
 ·replace ht:(aW y (oO y.ns cs) y.ns.length).1.ts[j]?=some t:=ht
  have YR:=jD (cm:=oO y.ns cs) YO (bw _)
  have hj:j<y.ns.length:=by
   have:=(jF.mp ht).1;rw[YR.lt,F.n] at this; exact this
  have l3:=YO.lt;have e0:y.ts[j]?=some y.ts[j]:=cT ∅
  obtain⟨t',g1,_,g3⟩:=R.t j _ e0;rw[ht] at g1;cases g1;have lr:=R.l;have lb:j<(qi y cs).length:=by show j<(aW y (oO y.ns cs) y.ns.length).2.2.length; omega
  have er:(qi y cs)[j]?=some (qi y cs)[j]:=cT lb;have e1:=g3 _ er;have e2:=h.sm j _ e0;show t=[dR Rw.c (y.pa++[qi y cs]) j,dR Rw.d (y.pa++[qi y cs]) j,dR Rw.a (y.pa++[qi y cs]) j];rw[um er,um er,um er,e1,e2];rfl
theorem RG{K:Frag}{nt:Nat}{g:TG}{js:List Nat}{xs:List V}{tl te:TE}{σ:St}{H:Hp}{Q:VK}(τ:Nat->St)(hτ:∀i,(τ i).length=nt)(hl:∀R:VK,(∀a H1,aK H H1->H1 a=some (.tup xs)->R (.ref a) H1)->tl σ H R)
  (h:∀H1 acc,aK H H1->H1 acc=none->∃Pv:Nat->List V->Hp->Prop,Pv 0 [] (upd H1 acc (.lst []))/\(∀i ys H',Pv i ys H'->aK H1 H') /\
   (∀i x ys H',xs[i]?=some x->Pv i ys H'->(∀R:St->Hp->Prop,R (τ i++bQ js σ) H'->g x (List.replicate nt none++bQ js σ) H' R)/\te (τ i++bQ js σ) H' fun y H4=>H4 acc=some (.lst ys)/\ys.length<sizeLine/\Pv (i+1) (ys++[y]) (upd H4 acc (.lst (ys++[y]))))/\∀ys H',Pv xs.length ys H'->Q (.ref acc) H'):ik nt js (GQ K tl) g tL te σ H Q:=
 hl _ fun a H1 s1 e1=>RD (tl:=fun _ H R=>R (.ref a) H) τ hτ (fun _ hR=>hR) e1 fun acc f=>by
  obtain⟨Pv,p0,p1,p2,p3⟩:=h H1 acc s1 f;exact⟨Pv,p0,fun i ys H' hp=>p1 i ys H' hp _ _ e1,p2,p3⟩
def zW(ls:List (Addr×List V))(la:Addr)(H:Hp):List Addr->List (List Rw)->Prop
 | [],[]=>True
 | m::ms,r::rs=>(m≠la/\∃xs,(m,xs)∈ls/\aa H (r.map vU) xs)/\zW ls la H ms rs
 | _,_=>False
theorem zW.past{C a:Addr}{H0 H':Hp}{m:Nat}{zs:List (Ya×Yd)}{ls:List (Addr×List V)}{la:Addr}(W:WD C a H0 m zs ls H'):∀{ms:List Addr}{rs:List (List Rw)},zW ls la H' ms rs->bU H' ms rs
 | [],[],_=>trivial
 | b::ms,r::rs,h=>by
  obtain⟨⟨_,xs,h1,h2⟩,h3⟩:=h;exact⟨⟨xs,(W.lo _ h1).2.2,h2⟩,zW.past W h3⟩
 | [],_::_,h=>h.elim
 | _::_,[],h=>h.elim
theorem zW.mono{H H':Hp}{ls ls':List (Addr×List V)}{la:Addr}(k:fJ H H')(hl:∀l∈ls,l.1≠la->l∈ls'):∀{ms:List Addr}{rs:List (List Rw)},zW ls la H ms rs->zW ls' la H' ms rs
 | [],[],_=>trivial
 | b::ms,r::rs,h=>by
  obtain⟨⟨h0,xs,h1,h2⟩,h3⟩:=h;exact⟨⟨h0,xs,hl _ h1 h0,aa.kp k _ _ (jC r) h2⟩,zW.mono k hl h3⟩
 | [],_::_,h=>h.elim
 | _::_,[],h=>h.elim
theorem zW.snoc{H:Hp}{ls:List (Addr×List V)}{la b:Addr}{xs:List V}{r:List Rw}(h0:b≠la)(h1:(b,xs)∈ls)(h2:aa H (r.map vU) xs):∀{ms:List Addr}{rs:List (List Rw)},zW ls la H ms rs->zW ls la H (ms++[b]) (rs++[r])
 | [],[],_=>⟨⟨h0,xs,h1,h2⟩,trivial⟩
 | c::ms,s::rs,h=>⟨h.1,zW.snoc h0 h1 h2 h.2⟩
 | [],_::_,h=>h.elim
 | _::_,[],h=>h.elim
theorem abB{y:Yd}{cs:List (Str×Int)}{ts:List T3}(YO:dX y)(N:NW y)(T:TW y)(hc:∀q∈cs,0<=q.2/\q.2<=1000000000000)(hn:y.ns=ts.map (·.1))(hp:y.ps=ts.map (·.2.1)):BR y.tot ts y.ss (yM y cs) (qi y cs)/\TW (yM y cs):=by
 have K:=V3 YO N T (abx (ns:=y.ns) hc) y.ns.length (bw _);have F:=cH y (oO y.ns cs) y.ns.length;have YI:=jD (cm:=oO y.ns cs) YO (bw _);have ln:y.ns.length=ts.length:=by rw[hn,bN]
 have ls:=YO.ls;refine⟨⟨?_,∅,?_,fun j r t s s' hr ht hs hs'=>?_,K.h,?_⟩,K.t⟩
 ·show(aW y (oO y.ns cs) y.ns.length).2.2.length=_;rw[F.r,ln]
 ·show(aW y (oO y.ns cs) y.ns.length).1.ns=_;rw[F.n,hn]
 ·exact K.r j r t.1 t.2.1 s s' hr (by rw[hn,cA,ht]; rfl) (by rw[hp,cA,ht]; rfl) hs hs'
 ·have:=YI.hs;rw[F.t] at this;exact this
theorem WD.aeT{C a:Addr}{H':Hp}{m:Nat}{zs:List (Ya×Yd)}{ls l2:List (Addr×List V)}(W:WD C a (fun _=>none) m zs ls H')(h:∀l∈l2,l.1≠a/\(∀z∈zs,l.1∉z.1.own)/\H' l.1=some (.lst l.2)):WD C a (fun _=>none) m zs (l2++ls) H':=by
 refine⟨W.ys,W.yo,fun z hz c hc=>⟨rfl,(W.fo z hz c hc).2.1,fun l hl=>?_⟩,fun l hl=>?_,W.tp,W.sx⟩
 ·rcases d_.mp hl with q | q
  ·exact fun e=>(h l q).2.1 z hz (e▸hc)
  ·exact(W.fo z hz c hc).2.2 l q
 ·rcases d_.mp hl with q | q
  ·exact⟨rfl,(h l q).1,(h l q).2.2⟩
  ·exact W.lo l q
theorem Uy{qs:List Addr}{gU:List (List Int)}{q:Addr}{xs:List V}(h:(q,xs)∈qs.zip (gU.map fun l=>l.map V.int)):∃(j:Nat)(l:List Int),qs[j]?=some q/\gU[j]?=some l/\xs=l.map V.int:=by
 obtain⟨j,hj⟩:=Kr.mp h;rw[Kz] at hj;obtain⟨h1,h2⟩:=hj;rw[cA] at h2;cases e:gU[j]? with
 | none=>rw[e] at h2; cases h2
 | some l=>rw[e] at h2; cases h2; exact⟨j,l,h1,e,rfl⟩
theorem K_{qs:List Addr}{gU:List (List Int)}{j:Nat}{q:Addr}{l:List Int}(h1:qs[j]?=some q)(h2:gU[j]?=some l):(q,l.map V.int)∈qs.zip (gU.map fun l=>l.map V.int):=by
 refine Kr.mpr ⟨j,?_⟩;rw[Kz];exact⟨h1,by rw[cA,h2]; rfl⟩
structure GK(C a:Addr)(m:Nat)(zs:List (Ya×Yd))(ns:List Str)(ts:List T3)(qa pr lp ll:Addr)(us:List V)(qs:List Addr)(gU:List (List Int))(ms:List Addr)(pa:List (List Rw))(ls:List (Addr×List V))(H:Hp):Prop where
 W:WD C a (fun _=>none) m zs ls H
 au:aa H (ts.map Hx) us
 mq:(qa,ns.map V.str)∈ls/\qa≠ll
 mp:(pr,us)∈ls/\pr≠ll
 ml:(lp,qs.map V.ref)∈ls/\lp≠ll
 md:∀(j:Nat) q l,qs[j]?=some q->gU[j]?=some l->(q,l.map V.int)∈ls/\q≠ll
 mm:(ll,ms.map V.ref)∈ls
 mn:zW ls ll H ms pa
theorem GK.more{C a:Addr}{m m':Nat}{zs O1:List (Ya×Yd)}{ns:List Str}{ts:List T3}{qa pr lp ll:Addr}{us:List V}{qs:List Addr}{gU:List (List Int)}{ms:List Addr}{pa:List (List Rw)}{ls ls':List (Addr×List V)}{H H':Hp}(G:GK C a m zs ns ts qa pr lp ll us qs gU ms pa ls H)(W:WD C a (fun _=>none) m' O1 ls' H')(k:fJ H H')(h:∀l∈ls,l∈ls'):GK C a m' O1 ns ts qa pr lp ll us qs gU ms pa ls' H':=
 ⟨W,aa.kp k _ _ (oY _) G.au,⟨h _ G.mq.1,G.mq.2⟩,⟨h _ G.mp.1,G.mp.2⟩,⟨h _ G.ml.1,G.ml.2⟩,fun j q l h1 h2=>⟨h _ (G.md j q l h1 h2).1,(G.md j q l h1 h2).2⟩,h _ G.mm,zW.mono k (fun l hl _=>h l hl) G.mn⟩
theorem GK.put{C a:Addr}{m m':Nat}{zs O1:List (Ya×Yd)}{ns:List Str}{ts:List T3}{qa pr lp ll:Addr}{us:List V}{qs:List Addr}{gU:List (List Int)}{ms ms':List Addr}{pa pa':List (List Rw)}{ls ls':List (Addr×List V)}{H H':Hp}(G:GK C a m zs ns ts qa pr lp ll us qs gU ms pa ls H)(W:WD C a (fun _=>none) m' O1 ls' H')(k:fJ H H')(h:∀l∈ls,l.1≠ll->l∈ls')(hm:(ll,ms'.map V.ref)∈ls')(hn:zW ls' ll H' ms' pa'):GK C a m' O1 ns ts qa pr lp ll us qs gU ms' pa' ls' H':=
 ⟨W,aa.kp k _ _ (oY _) G.au,⟨h _ G.mq.1 G.mq.2,G.mq.2⟩,⟨h _ G.mp.1 G.mp.2,G.mp.2⟩,⟨h _ G.ml.1 G.ml.2,G.ml.2⟩,fun j q l h1 h2=>⟨h _ (G.md j q l h1 h2).1 (G.md j q l h1 h2).2,(G.md j q l h1 h2).2⟩,hm,hn⟩
def Hf(n:Nat)(zr:List (Ya×Yd))(oh:V)(y:Yd)(i b:Nat):Prop:=(zr=[]/\oh=.non/\i<=b / 2)\/∃A2 z ts0 j8,zr=[(A2,z)]/\oh=.ref A2.p/\y=lift ts0 j8 z/\T0 ts0 n/\z.ns.length=n/\b / 2<i
def Hg(n:Nat)(zr:List (Ya×Yd))(oh:V)(y:Yd)(i b:Nat):Prop:=(zr=[]/\oh=.non/\i<b / 2)\/∃A2 z ts0 j8,zr=[(A2,z)]/\oh=.ref A2.p/\y=lift ts0 j8 z/\T0 ts0 n/\z.ns.length=n/\b / 2<=i
theorem Vr{y:Yd}{tot:Int}{ts:List T3}(YO:dX y)(yt:y.tot=tot)(yn:y.ns=ts.map (·.1))(yp:y.ps=ts.map (·.2.1))(yo:y.os=ts.map (·.2.2)):lift y.ts y.pa (qJ tot ts y.ss)=y:=by
 have l1:y.ns.length=ts.length:=by rw[yn,bN]
 have l2:=YO.lt
 have:List.zipWith Hr y.ts (ts.map fun _=>[0,0,0])=y.ts:=by
  refine List.ext_getElem? fun i=>?_;rw[List.getElem?_zipWith,cA];cases e:y.ts[i]? with
  | none=>simp
  | some t=>
   have hi:i<y.ts.length:=(jF.mp e).1;rw[cT (show i<ts.length by omega)]
   obtain⟨a,b,c,rfl⟩:=UG (YO.tg t (dC e));simp[Hr]
 unfold lift qJ;rw[this,<- yn,<- yp,<- yo,<- yt,qF]
theorem adG{tot:Int}{ts:List T3}(hps:∀x∈ts,Ei x.2.1)(h60:tot<=60):YK (qJ tot ts (ts.map fun x=>eF x.2.1)):=by
 refine⟨⟨fun s hs=>?_,h60⟩,(fun rs hrs=>by cases hrs),fun j t ht=>?_⟩
 ·obtain⟨x,hx,rfl⟩:=dZ.mp hs;exact Ak 0
 ·replace ht:(ts.map fun _=>([0,0,0]:List Int))[j]?=some t:=ht
  rw[cA] at ht;cases e:ts[j]? with
  | none=>rw[e] at ht; cases ht
  | some x=>rw[e] at ht; cases ht; rfl
theorem Ew{H:Hp}{a:Addr}:∀{as:List Addr}{n:Nat},wu H as n->∃tl:List (Addr×List V),(∀b∈as,b≠a->∃xs,(b,xs)∈tl)/\∀l∈tl,l.1≠a/\H l.1=some (.lst l.2)
 | [],n,_=>⟨[],by simp,by simp⟩
 | c::as,n,h=>by
  obtain⟨tl,h1,h2⟩:=Ew (as:=as) (n:=n) ⟨fun b hb=>h.tp b (cI _ hb)⟩;obtain⟨m,_,x1,x2,x3,ht,_⟩:=h.tp c (dg ..);by_cases e:c=a
  ·refine⟨tl,fun b hb n=>?_,h2⟩;rcases bB.mp hb with z | z
   ·exact absurd (z.trans e) n
   ·exact h1 b z n
  ·refine⟨(c,[.int x1,.int x2,.int x3])::tl,fun b hb n=>?_,fun l hl=>?_⟩
   ·rcases bB.mp hb with z | z
    ·subst z; exact⟨_,dg ..⟩
    ·obtain⟨xs,hx⟩:=h1 b z n;exact⟨xs,cI _ hx⟩
   ·rcases bB.mp hl with z | z
    ·subst z; exact⟨e,ht⟩
    ·exact h2 l z
theorem WD.W0{C a:Addr}{H' dF:Hp}{m m' n:Nat}{zs:List (Ya×Yd)}{ls ls':List (Addr×List V)}{as:List Addr}(W:WD C a (fun _=>none) m zs ls H')(tps:wu H' as n)(ho:∀z∈zs,∀c∈z.1.own,c∉as)(hl:∀l∈ls',l∈ls/\l.1∉as)(x:Eh as H' dF)(t:Tp dF a m'):WD C a (fun _=>none) m' zs ls' dF/\fJ H' dF:=by
 have kp:fJ H' dF:=fun b xs e=>x b _ (tps.out fun ys z=>by rw[e] at z; cases z) e
 refine⟨⟨⟨fun z hz=>(W.ys.at_ z hz).keep kp fun c hc o e=>x c o (ho z hz c hc) e,W.ys.dj⟩,W.yo,fun z hz c hc=>⟨rfl,(W.fo z hz c hc).2.1,fun l hl'=>(W.fo z hz c hc).2.2 l (hl l hl').1⟩,fun l hl'=>?_,t,fun b o h=>by unfold hid at h; split at h <;> cases h⟩,kp⟩
 obtain⟨h1,h2⟩:=hl l hl';obtain⟨_,h4,h5⟩:=W.lo l h1;exact⟨rfl,h4,x _ _ h2 h5⟩
def Ke(K:Frag):Sp:=fun vs H Q _=>∃(p:Addr)(ns:List Int),vs=[.ref p]/\Vv K H p (ns.map V.int)/\ns.length<=63/\∀H',Q (.bl true) H'
theorem Qj:aV ["_law_script","_law_tapes","_law_rows_here","_law_least","_law_total","_law_beats","_law_yard","_law_names_here","_law_half","_law_loads_here","_law_lines","_law_turn","_law_ahead","_law_comes","_law_k","_law_name","_law_due"] ["_law_script"] (aD wZ):=(by walk_at "c")
theorem XF{C:Addr}(F:jL K "law" "law" wZ f fd)(B:Bi mg)(Z:ZY K C)(RM:Ct P w K mg base k "_law_tape" AK (PL K))(aM:Ct P w K mg base k "_law_draw" AL il)(RN:Ct P w K mg base k "_law_rows" AM aad)(Oh:Ct P w K mg base k "_law_loads" AZ VR)(yJ:Ct P w K mg base k "_law_beat_right" AY (aag C))(DX:YX P w K mg base k C "Yard" AT (Ii C))(iM:Ek P w K mg base k C "beat" ["self","comes"] (Xc C))(cg:Ek P w K mg base k C "stand" AW (Fi C gS))(mj:Ek P w K mg base k C "told" AV (VM C))(jr:Ek P w K mg base k C "counts" AW (Fi C gT))(j5:Ek P w K mg base k C "beats" AV (VN C)):bF P w K mg base iy (k+1) f fd ["_law_script"] (Ke K):=by
 refine F.ok Qj (hbody:=(0:))
 refine Gm h fun p ns cL hS hl q=>?_; clear h; subst cL;have ND:=Qj.nd;refine⟨_,(aq (Cy (i:=1) ND rfl (by walk_at "o") (N':=["_law_k","_law_script"]) (js:=[0]) rfl (eV (by rfl) B.range (ak (pb (gQ rfl) B.max oW (ak ao (ak (pb (cZ rfl) B.min jt (ak (pb (cB (K:=K) rfl) B.len dU (ak (pv 0) aj)) (ak ao aj))) aj))) aj)) sX.mk1 rfl ⋯ rfl (fun fp s' H'=>(pf RM hr (ak (pv 1) (ak (pv 0) aj))))) (aq (aR (i:=2) (pf RN hr (ak (aU aP (pv 1) ao (fun _ _=>rfl)) aj))) (aq (aR (i:=3) (pb (dH rfl) B.sum j6 (ak (kY (nt:=3) (N':=["_law_name","_law_post_here","_law_onward"]) (js:=[]) rfl (kW (K:=K) rfl (pv 2)) sW.of (fun fp s' H'=>(bR (K:=K) (n:=3) rfl rfl (aB (aCN Ap 0) (aB (aCN Ap 1) (aB (aCN Ap 2) bC))))) (fun fp s' H'=>gW) (fun fp s' H'=>(aU aP (aU aP (pv 1) ao (fun _ _=>rfl)) ao (fun _ _=>rfl)))) aj))) (aq (t_ (i:=4) (j:=5) rfl ND rfl rfl ⋯ rfl rfl (ak (aU aP (cG (ak ao (ak (pb (cZ rfl) B.min jt (ak ao (ak (aL bu (pv 3) ao) aj))) aj))) (pf aM hr (ak (aU aP (pv 1) ao (fun _ _=>rfl)) (ak ao aj))) (fun _ _=>rfl)) (ak (aU aP (cG (ak ao (ak ao aj))) (pf aM hr (ak (aU aP (pv 1) ao (fun _ _=>rfl)) (ak ao aj))) (fun _ _=>rfl)) aj)) (by rfl)) (aq (dN (bA (ak (pkd DX hr (ak (pv 4) (ak (pt (lA) B.list my (ak (pv 2) aj)) aj))) (ak (cX (N':=["_law_row_here"]) (js:=[]) rfl (kW (K:=K) rfl (pv 2)) sX.Ux rfl ⋯ rfl (fun fp s' H'=>(aU aP (pv 0) ao (fun _ _=>rfl)))) (ak ou aj)))) (bR (K:=K) (n:=3) rfl rfl (aB (aC (i:=6)) (aB (aC (i:=7)) (aB (aC (i:=8)) bC))))) (aq (dN (bA (ak (pf Oh hr (ak (pv 1) (ak (pb (cB (K:=K) rfl) B.len dU (ak (pv 2) aj)) (ak (pv 5) aj)))) (ak (cG aj) aj))) (bR (K:=K) (n:=2) rfl rfl (aB (aC (i:=9)) (aB (aC (i:=10)) bC)))) (aq (gO PassesOwn.never rfl (eV (by rfl) B.range (ak (pv 5) aj)) (aC (i:=11)) (aq (cN (bf jh (pv 11) (aL KN (pv 5) ao) (bc _)) (aF (aR (i:=8) (pk DX hr (ak (pv 4) (ak (pt (lA) B.list my (ak (pv 2) aj)) (ak (cX (N':=["_law_name","_law_yard"]) (js:=[6]) rfl (kW (K:=K) rfl (pv 7)) sX.mk1 rfl ⋯ rfl (fun fp s' H'=>(pm cg hr (pv 1) (ak (pv 0) aj)))) aj)))))) bI) (aq (t_ (i:=12) (j:=13) rfl ND rfl rfl ⋯ rfl rfl (ak (cX (N':=["_law_name","_law_yard"]) (js:=[6]) rfl (kW (K:=K) rfl (pv 7)) sX.mk1 rfl ⋯ rfl (fun fp s' H'=>(pm cg hr (pv 1) (ak (pv 0) aj)))) (ak (kY (nt:=2) (N':=["_law_name","_law_load","_law_turn"]) (js:=[11]) rfl (Ua (K:=K) rfl B.zip (ak (pv 7) (ak (pv 9) aj))) sW.of (fun fp s' H'=>(bR (K:=K) (n:=2) rfl rfl (aB (aCN ["_law_name","_law_load","_law_turn"] 0) (aB (aCN ["_law_name","_law_load","_law_turn"] 1) bC)))) (fun fp s' H'=>gW) (fun fp s' H'=>(bA (ak (pv 0) (ak (aU aP (pv 1) (pv 2) (fun _ _=>rfl)) aj))))) aj)) (by rfl)) (aq (dq (lW (K:=K) rfl PySem.F.plainAttrs_list PySem.F.slot_list_append PySem.F.type_list_append eZ (pv 10) (ak (pm iM hr (pv 6) (ak (pt (lA) B.list my (ak (pv 13) aj)) aj)) aj))) (aq (cN (n_ (gK (pf yJ hr (ak (pv 6) (ak (pv 4) (ak (pv 2) (ak (aU aP (pv 10) (QG HR ao) (fun _ _=>rfl)) (ak (pv 12) aj)))))))) (aF (aZ pZ)) bI) (aF (cN (PW.pt (Cw (bf vW (pv 8) ou (bc _)) (vV (bf (Jg hr.units) (pm iM hr (pv 8) (ak (pv 13) aj)) (aU aP (pv 10) (QG HR ao) (fun _ _=>rfl)) (bc _))))) (aF (aZ pZ)) bI))))))) (aq (gO PassesOwn.never rfl (CN (K:=K) rfl B.enumerate (ak (pv 7) aj)) (bR (K:=K) (n:=2) rfl rfl (aB (aC (i:=14)) (aB (aC (i:=15)) bC))) (aq (aR (i:=16) (pt (pH) B.tuple sU (ak (Gu (nt:=1) (N':=["_law_place","_law_lines","_law_k"]) (js:=[10,14]) rfl (rN (K:=K) rfl (bA (ak ao (ak ao (ak ao aj))))) qU.of (fun fp s' H'=>(aC (i:=0) (by show List.Nodup (["_law_place","_law_lines","_law_k"]:List Str); decide) rfl (.inr (iC rfl)) (.inl rfl))) (fun fp s' H'=>gW) (fun fp s' H'=>(pb (dH rfl) B.sum j6 (ak (cX (N':=["_law_line","_law_k","_law_place"]) (js:=[2,0]) rfl (kW (K:=K) rfl (pv 1)) sX.mk2 rfl ⋯ rfl (fun fp s' H'=>(aU aP (aU aP (pv 0) (pv 1) (fun _ _=>rfl)) (pv 2) (fun _ _=>rfl)))) aj)))) aj))) (aF (cN (PW.pt (rK (bf (Jg hr.units) (pm jr hr (pv 6) (ak (pv 15) aj)) (pv 16) (bc _)) (lU (bf (Jg hr.units) (pm cg hr (pv 8) (ak (pv 15) aj)) (pm cg hr (pv 6) (ak (pv 15) aj)) (bc _))))) (aF (aZ pZ)) bI)))) (aF (aZ (CW (eX (XD hr.units) (pm0 mj hr (pv 6)) (pv 10) (bc _)) (Jb (eX jh (pm0 j5 hr (pv 6)) (pv 5) (bc _)))))))))))))),?_⟩
 refine u_ (fun σ H1=>∃(lt:Addr)(as:List Addr),σ=[some (.ref p),some (.ref lt),none,none,none,none,none,none,none,none,none,none,none,none,none,none,none]/\H1 lt=some (.lst (as.map V.ref))/\lt∉as/\1<=as.length/\as.Nodup/\wu H1 as 0) ?_ ?_
 rotate_left
 ·intro N hN;ext;rw[tH];ext;refine⟨p,_,rfl,.inl hS.sq,?_⟩;rw[bN]
  obtain⟨n,hn,hn1,hn8⟩:∃n:Nat,(if(if(20:Int)<(ns.length:Int) then(20:Int) else(ns.length:Int))>1 then(if(20:Int)<(ns.length:Int) then(20:Int) else(ns.length:Int)) else 1)=(n:Int)/\1<=n/\n<=20:=by
   refine⟨(if(if(20:Int)<(ns.length:Int) then(20:Int) else(ns.length:Int))>1 then(if(20:Int)<(ns.length:Int) then(20:Int) else(ns.length:Int)) else 1).toNat,?_,?_,?_⟩ <;> (split <;> split <;> omega)
  refine⟨_,_,rfl,?_⟩;rw[hn];refine CK.of (n:=n) rfl ∅ fun acc hacc=>?_
  refine⟨fun i ys H'=>∃as:List Addr,ys=as.map V.ref/\as.length=i/\as.Nodup/\wu H' as 0/\H' acc=some (.lst ys)/\acc∉as/\aK H H',⟨[],rfl,rfl,List.nodup_nil,⟨fun a ha=>by cases ha⟩,aA,by simp,aO hacc _⟩,?_,?_⟩
  ·intro i ys H1 hi wz; refine mL wz fun as R_ hal iQ=>?_; clear wz; subst R_; refine xP iQ fun nd tps e1 aaY s1=>?_; clear iQ;simp only[bQ,gH,vd,Kv,Qt,Option.join_some];ext;refine⟨p,ns,_,rfl,(hS.same s1).sq,∅,∅,fun a H2 f2 s2 t2=>?_⟩
   have na:a∉as:=tps.new f2;have nac:acc≠a:=fun z=>by rw[<- z,e1] at f2; cases f2
   refine⟨s2 _ _ e1,aQ (by rw[bN]; omega),as++[a],by rw[gJ]; rfl,by rw[cC,hal]; rfl,?_,⟨fun b hb=>?_⟩,aA,?_,(s1.trans s2).fW hacc⟩
   ·rw[vh];refine⟨nd,by simp,fun x hx y hy=>?_⟩
    rw[fV.mp hy];exact fun z=>na (z▸hx)
   ·rcases d_.mp hb with z | z
    ·obtain⟨m,hm,tb⟩:=tps.tp b z;exact⟨m,hm,(tb.same s2).fW (fun y=>aaY (y▸z))⟩
    ·rw[fV.mp z];exact⟨0,bw _,t2.fW nac⟩
   ·intro z;rcases d_.mp z with z | z
    ·exact aaY z
    ·exact nac (fV.mp z)
  ·rintro ys H1 ⟨as,rfl,hal,nd,tps,eT,nT,s1⟩;exact hN _ _ ⟨acc,as,rfl,eT,nT,∅,nd,tps⟩
 intro σ H1 El; refine Gk El fun lt as cL elt nlt las BJ=>?_; clear El; subst cL; obtain⟨nd,tps⟩:=BJ;obtain⟨a,ha⟩:∃a,as[0]?=some a:=⟨_,cT ∅⟩
 have hma:=dC ha;have nla:lt≠a:=fun z=>nlt (z▸hma);have hat:yN (as.map V.ref) (0:Int)=some (.ref a):=a_ (j:=0) (by rw[cA,ha]; rfl)
 refine u_ (fun σ H2=>∃(pr:Addr)(ts:List T3)(us:List V)(n:Nat),σ=[some (.ref p),some (.ref lt),some (.ref pr),none,none,none,none,none,none,none,none,none,none,none,none,none,none]/\pr∉as/\pr≠lt/\H2 lt=some (.lst (as.map V.ref))/\H2 pr=some (.lst us)/\aa H2 (ts.map Hx) us/\(∀t,((ts.map (·.2.1)).map eO.lo).sum<=t->JV t ts)/\(∀x∈ts,Ei x.2.1)/\n<=10000/\wu H2 as n) ?_ ?_
 rotate_left
 ·intro N hN;ext;obtain⟨m0,hm0,t0⟩:=tps.tp a hma;refine Ix.lst elt hat ⟨a,m0,rfl,t0,∅,fun pr ts us H2 f2 pa e2 a2 _ T hps t2 x2=>?_⟩
  exact hN _ _ (uw pr ts us _ ⟨rfl,tps.new f2,(fun z=>by rw[z,elt] at f2; cases f2),x2.get nla elt,e2,a2,T,hps,∅,tps.draw (M:=3000) x2 t2 ∅ ∅⟩)
 intro σ H2 Hw; refine aaz Hw fun pr ts us n lC npr ah_ elt epr au T hps En=>?_; clear Hw; subst lC; obtain⟨hn,tps⟩:=En;have lu:=au.length;rw[bN] at lu;have l5:ts.length<=5:=(T _ (Ak _)).n5
 have XS:∀(l:List T3),(∀x∈l,Ei x.2.1)->0<=((l.map (·.2.1)).map eO.lo).sum/\((l.map (·.2.1)).map eO.lo).sum<=12*l.length:=by
  intro l
  induction l with
  | nil=>intro _; simp
  | cons x l ih=>
   intro hl;obtain⟨i1,i2⟩:=ih fun z hz=>hl z (cI _ hz);have hx:=hl x (dg ..);have:=hx.lo;have:=hx.hi;simp only[gH,y_,fU];omega
 obtain⟨b1,b2⟩:=XS ts hps;refine u_ (fun σ H3=>σ=[some (.ref p),some (.ref lt),some (.ref pr),some (.int ((ts.map (·.2.1)).map eO.lo).sum),none,none,none,none,none,none,none,none,none,none,none,none,none]/\aK H2 H3) ?_ ?_
 rotate_left
 ·intro N hN;ext;obtain⟨lD,TA⟩:=wN au;refine pF (((ts.map (·.2.1)).map eO.lo).map .int) (sY ts lD) (iR ts lD) (fun R hR=>by ext; exact hR) epr (by simp; omega) ∅ (gq _) ?_ ?_
  ·intro j x d' H' hx hd s';have TB:=TA.mono s'.kp;refine⟨fun R hR=>xU TB hx hR,fun R hR=>?_⟩;have hj:j<ts.length:=by rw[<- lu]; exact(jF.mp hx).1
   have et:ts[j]?=some ts[j]:=cT hj;obtain⟨vp,ev,av⟩:=TB.ap.nth (i:=j) (d:=gM ts[j].2.1) (by rw[cA,cA,et]; rfl)
   rw[cA,cA,cA,et] at hd;cases hd;rw[iG et];ext;rw[ig,ev];obtain⟨pa,pb,pc,pd,rfl,h1,h2,_,_⟩:=Qz av;exact Ix.tup h1 (a_ (j:=2) rfl) (Ix.tup h2 (a_ (j:=0) rfl) (hR _ _ (aK.refl _) (At.int _)))
  ·intro acc ns H6 f6 s6 e6 a6;have:=cF a6;subst this;exact⟨acc,_,rfl,.inl e6,hN _ _ ⟨rfl,s6⟩⟩
 rintro σ H3 ⟨rfl,s3⟩
 replace elt:=s3 _ _ elt
 replace epr:=s3 _ _ epr
 replace au:=au.mono s3
 replace tps:=tps.same s3
 clear s3;refine u_ (fun σ H4=>∃tot b n,σ=[some (.ref p),some (.ref lt),some (.ref pr),some (.int ((ts.map (·.2.1)).map eO.lo).sum),some (.int tot),some (.int (b:Nat)),none,none,none,none,none,none,none,none,none,none,none]/\JV tot ts/\tot<=60/\(b=300\/b=40)/\H4 lt=some (.lst (as.map V.ref))/\H4 pr=some (.lst us)/\aa H4 (ts.map Hx) us/\n<=20000/\wu H4 as n) ?_ ?_
 rotate_left
 ·intro N hN;ext;obtain⟨m0,hm0,t0⟩:=tps.tp a hma;refine⟨⋯,fun q1 G1 g1 z1 v1=>?_⟩
  refine Ix.lst (z1 _ _ elt) hat ?_;have t1:=t0.same z1;have q1a:q1≠a:=t0.ne g1;have Sg:pr≠a:=fun z=>npr (z▸hma);refine cR.of t1 ∅ ⋯ ⋯ fun d1 G2 d10 d11 t2 y2=>?_
  obtain⟨tot,htot,hT,h6⟩:∃tot,yN [V.int 60,V.int (if((ts.map (·.2.1)).map eO.lo).sum+4<60 then((ts.map (·.2.1)).map eO.lo).sum+4 else 60)] d1=some (.int tot)/\((ts.map (·.2.1)).map eO.lo).sum<=tot/\tot<=60:=by
   have:d1=0\/d1=1:=by omega
   rcases this with rfl | rfl
   ·exact⟨60,rfl,∅,⋯⟩
   ·exact⟨_,rfl,by split <;> omega,by split <;> omega⟩
  refine Ix.lst (y2.get q1a v1) htot ⟨⋯,fun q2 G3 g3 z3 v3=>?_⟩
  refine Ix.lst (z3 _ _ (y2.get nla (z1 _ _ elt))) hat ?_;have q2a:q2≠a:=t2.ne g3;refine cR.of (t2.same z3) ∅ ⋯ ⋯ fun d2 G4 d20 d21 t4 y4=>?_
  obtain⟨b,hb,hbb⟩:∃b:Nat,yN [V.int 300,V.int 40] d2=some (.int b)/\(b=300\/b=40):=by
   have:d2=0\/d2=1:=by omega
   rcases this with rfl | rfl
   ·exact⟨300,rfl,.inl rfl⟩
   ·exact⟨40,rfl,.inr rfl⟩
  refine Ix.lst (y4.get q2a v3) hb ⟨_,_,rfl,?_⟩;have yy:SX a H3 G4:=(SX.of z1).trans (y2.trans ((SX.of z3).trans y4));exact hN _ _ (Eg tot b _ ⟨rfl,T _ hT,h6,hbb,yy.get nla elt,yy.get Sg epr,aa.kp (Tq t0 yy) _ _ (oY _) au,∅,tps.draw (M:=10100) yy t4 ∅ ∅⟩)
 intro σ H4 Vz; refine Qx Vz fun tot b n4 iQ TO h60 hb abl Vh Zv uZ=>?_; clear Vz; subst iQ; obtain⟨hn4,wJ⟩:=uZ;clear elt epr au tps;have Sg:pr≠a:=fun z=>npr (z▸hma);obtain⟨m4,hm4,t4⟩:=wJ.tp a hma;obtain⟨tl,tl1,tl2⟩:=Ew wJ (a:=a)
 have W4:WD C a (fun _=>none) m4 [] ([(pr,us),(lt,as.map V.ref)]++tl) H4:=by
  refine⟨⟨by simp,by simp⟩,by simp,by simp,fun l hl=>?_,t4,fun b o h=>by unfold hid at h; split at h <;> cases h⟩
  rcases d_.mp hl with h | h
  ·simp only[bB,dM,or_false] at h;rcases h with rfl | rfl
   ·exact⟨rfl,Sg,Vh⟩
   ·exact⟨rfl,nla,abl⟩
  ·exact⟨rfl,tl2 l h⟩
 refine u_ (fun σ H5=>∃A qa,σ=[some (.ref p),some (.ref lt),some (.ref pr),some (.int ((ts.map (·.2.1)).map eO.lo).sum),some (.int tot),some (.int (b:Nat)),some (.ref A.p),some (.ref qa),some .non,none,none,none,none,none,none,none,none]/\WD C a (fun _=>none) m4 [(A,qJ tot ts (ts.map fun x=>eF x.2.1))] ((qa,(ts.map (·.1)).map V.str)::([(pr,us),(lt,as.map V.ref)]++tl)) H5/\aa H5 (ts.map Hx) us/\wu H5 as n4/\qa∉as) ?_ ?_
 rotate_left
 ·intro N hN;ext;refine⟨pr,us,rfl,Vh,fun p2 f2=>?_⟩;have s4:=aO f2 (HO.lst us);have e4:upd H4 p2 (.lst us) p2=some (.lst us):=aA;generalize upd H4 p2 (.lst us)=H5 at s4 e4 ⊢;refine KY (W4.grow s4) e4 (Zv.mono s4) TO hps (.inl ⟨rfl,rfl⟩) (by rw[bN]) (fun z hz=>by obtain⟨x,hx,rfl⟩:=dZ.mp hz; exact(Du (hps x hx)).1) (by rw[uW hps]; exact TO.lm) fun A H6 s5 W6=>?_
  have s46:=s4.trans s5;obtain⟨lD,TA⟩:=wN (Zv.mono s46);refine iK ((ts.map (·.1)).map .str) (fun R hR=>by ext; exact hR) (s46 _ _ Vh) (by simp; omega) ∅ (rA _) (fun i x d H' hx hd s' R hR=>?_) fun acc vs H7 f7 s7 e7 a7=>?_
  ·have hi:i<ts.length:=by rw[<- lu]; exact(jF.mp hx).1
   have et:ts[i]?=some ts[i]:=cT hi;refine bG ((TA.mono s'.kp).at_ i _ et) fun b vp h1 h2 h3=>?_;rw[hx] at h1;cases h1;rw[cA,cA,et] at hd;cases hd;ext;exact Ix.tup h3 (a_ (j:=0) rfl) (hR _ _ (aK.refl _) (At.str _))
  ·have:=j_ a7;subst this;refine⟨⋯,fun p7 H8 f8 s8 e8=>⟨p7,_,rfl,fK.of e8,rfl,?_⟩⟩
   ext;have s48:=s46.trans (s7.trans s8);exact hN _ _ ⟨A,acc,rfl,(W6.new f7 s7 e7).grow s8,Zv.mono s48,wJ.same s48,(wJ.same s46).new f7⟩
 intro σ H5 ZJ; refine Gk ZJ fun A qa cL W5 au5 aaa nqa=>?_; clear ZJ; subst cL;clear W4 Zv wJ abl Vh;have h0:(A,qJ tot ts (ts.map fun x=>eF x.2.1)).2.pa=[]:=rfl;have aeR:b<=300:=by omega
 refine u_ (fun σ H6=>∃lp ll qs gU ls m6,σ=[some (.ref p),some (.ref lt),some (.ref pr),some (.int ((ts.map (·.2.1)).map eO.lo).sum),some (.int tot),some (.int (b:Nat)),some (.ref A.p),some (.ref qa),some .non,some (.ref lp),some (.ref ll),none,none,none,none,none,none]/\gU.length=ts.length/\qs.length=gU.length/\(∀l∈gU,LdG b l)/\GK C a m6 [(A,qJ tot ts (ts.map fun x=>eF x.2.1))] (ts.map (·.1)) ts qa pr lp ll us qs gU [] [] ls H6) ?_ ?_
 rotate_left
 ·intro N hN;ext;have ael:=(W5.lo (pr,us) (by simp)).2.2
  have aes:=(W5.lo (lt,as.map V.ref) (by simp)).2.2
  refine(jM pr _ ⟨rfl,.inl (bT.of ael),BW lt as ts.length b n4 ⟨by rw[lu],aes,nlt,las,aaa,∅,l5,aeR,fun lp qs gU H6 f6 V9 npq e6 l6 LA Tj x6=>⟨⋯,fun ll H7 f7 s7 e7=>⟨⋯,fun p8 H8 f8 s8 e8=>⟨p8,_,rfl,fK.of e8,rfl,?_⟩⟩⟩⟩⟩)
  ext;obtain⟨m6,_,t6⟩:=Tj.tp a hma
  have own:∀c∈A.own,c∉as:=fun c hc h=>by
   obtain⟨_,h2,h3⟩:=W5.fo (A,_) (fV.mpr rfl) c hc;obtain⟨xs,hx⟩:=tl1 c h h2;exact h3 (c,xs) (by simp[hx]) rfl
  obtain⟨W6,k6⟩:=W5.W0 (ls':=[(qa,(ts.map (·.1)).map V.str),(pr,us)]) aaa (fun z hz=>by rw[fV.mp hz]; exact own) (fun l hl=>by
   simp only[bB,dM,or_false] at hl;rcases hl with rfl | rfl
   ·exact⟨by simp,nqa⟩
   ·exact⟨by simp,npr⟩) x6 t6
  have adJ:∀c,H5 c=none->c∉A.own:=fun c hc h=>by
   obtain⟨o,ho,_⟩:=(W5.ys.at_ (A,_) (fV.mpr rfl)).al c h;rw[hc] at ho; cases ho
  have q6:∀c xs,H5 c=none->c∉as->H6 c=some (.lst xs)->c≠a/\(∀z∈[(A,qJ tot ts (ts.map fun x=>eF x.2.1))],c∉z.1.own)/\H6 c=some (.lst xs):=fun c xs h1 h2 h3=>⟨fun z=>h2 (z▸hma),fun z hz=>by rw[fV.mp hz]; exact adJ c h1,h3⟩
  have W6':=W6.aeT (l2:=(lp,qs.map V.ref)::qs.zip (gU.map fun l=>l.map V.int)) (fun l hl=>by
   rcases bB.mp hl with h | h
   ·rw[h]; exact q6 lp _ f6 V9 e6
   ·obtain⟨c,xs⟩:=l;obtain⟨j,l,h1,h2,rfl⟩:=Uy h;have hq:=dC h1
    exact q6 c _ (LA.f c hq).1 (LA.f c hq).2 (LA.e j c l h1 h2))
  have W7:=(W6'.new f7 s7 e7).grow s8
  have nll:∀l∈((lp,qs.map V.ref)::qs.zip (gU.map fun l=>l.map V.int))++[(qa,(ts.map (·.1)).map V.str),(pr,us)],l.1≠ll:=fun l hl z=>by
   have:=(W6'.lo l hl).2.2;rw[z,f7] at this; cases this
  exact hN _ _ (xi6 lp ll qs gU _ m6 ⟨rfl,l6,LA.l,LA.g,W7,aa.kp (k6.trans (s7.trans s8).kp) _ _ (oY _) au5,⟨by simp,nll (qa,(ts.map (·.1)).map V.str) (by simp)⟩,⟨by simp,nll (pr,us) (by simp)⟩,⟨by simp,nll (lp,qs.map V.ref) (by simp)⟩,fun j q' l h1 h2=>⟨cI _ (M3 _ (cI _ (K_ h1 h2))),nll (q',l.map V.int) (M3 _ (cI _ (K_ h1 h2)))⟩,dg ..,trivial⟩)
 rintro σ H6 ⟨lp,ll,qs,gU,ls,m6,rfl,ll1,lq,lg,G6⟩;have Y0:dX (qJ tot ts (ts.map fun x=>eF x.2.1)):=G6.W.yo (A,_) (fV.mpr rfl);have PG0:YK (qJ tot ts (ts.map fun x=>eF x.2.1)):=adG hps h60
 have TW0:TW (qJ tot ts (ts.map fun x=>eF x.2.1)):=fun s hs=>by
  obtain⟨x,hx,rfl⟩:=dZ.mp hs;have:=(Du (hps x hx)).2;have h12:=(hps x hx).hi;have hlo:=(hps x hx).lo;omega
 refine u_ (fun σ H'=>∃i,i=b/\∃(A:Ya)(y:Yd)(zr:List (Ya×Yd))(ms:List Addr)(ls:List (Addr×List V))(oh:V)(QS Nq Us:Option V)(m:Nat),σ=[some (.ref p),some (.ref lt),some (.ref pr),some (.int ((ts.map (·.2.1)).map eO.lo).sum),some (.int tot),some (.int (b:Nat)),some (.ref A.p),some (.ref qa),some oh,some (.ref lp),some (.ref ll),QS,Nq,Us,none,none,none]/\y.tot=tot/\y.ns=ts.map (·.1)/\y.ps=ts.map (·.2.1)/\y.os=ts.map (·.2.2)/\y.pa.length=i/\YK y/\TW y/\Hf ts.length zr oh y i b/\GK C a m ((A,y)::zr) (ts.map (·.1)) ts qa pr lp ll us qs gU ms y.pa ls H') ?_ ?_
 rotate_left
 ·intro N hN;rw[m_];ext;refine FK.ofN (n:=b) rfl ∅ (fun i σ H'=>∃(A:Ya)(y:Yd)(zr:List (Ya×Yd))(ms:List Addr)(ls:List (Addr×List V))(oh:V)(QS Nq Us:Option V)(m:Nat),σ=[some (.ref p),some (.ref lt),some (.ref pr),some (.int ((ts.map (·.2.1)).map eO.lo).sum),some (.int tot),some (.int (b:Nat)),some (.ref A.p),some (.ref qa),some oh,some (.ref lp),some (.ref ll),QS,Nq,Us,none,none,none]/\y.tot=tot/\y.ns=ts.map (·.1)/\y.ps=ts.map (·.2.1)/\y.os=ts.map (·.2.2)/\y.pa.length=i/\YK y/\TW y/\Hf ts.length zr oh y i b/\GK C a m ((A,y)::zr) (ts.map (·.1)) ts qa pr lp ll us qs gU ms y.pa ls H')
   (Z8 A _ ([]) ([]) ls _ _ _ _ m6 ⟨rfl,rfl,rfl,rfl,rfl,rfl,PG0,TW0,.inl ⟨rfl,rfl,gC _⟩,G6⟩) ?_ (fun σ H' h=>hN _ _ ⟨b,rfl,h⟩)
  intro i σ H7 hi zr9 N2 hN2; refine Xk zr9 fun A y zr ms ls oh QS Nq Us m uZ yO=>?_; clear zr9; subst uZ; refine nZ yO fun yt yn yp yo yl Em=>?_; clear yO; obtain⟨PG,TW',hf,G7⟩:=Em;show lF _ _ _ [some (.ref p),some (.ref lt),some (.ref pr),some (.int ((ts.map (·.2.1)).map eO.lo).sum),some (.int tot),some (.int (b:Nat)),some (.ref A.p),some (.ref qa),some oh,some (.ref lp),some (.ref ll),some (.int (0+(i:Nat))),Nq,Us,none,none,none] H7;have YO:dX y:=G7.W.yo (A,y) (dg ..);have lns:y.ns.length=ts.length:=by rw[yn,bN]
  refine u_ (fun σ' H'=>∃(zr:List (Ya×Yd))(ls:List (Addr×List V))(oh:V)(m:Nat),σ'=[some (.ref p),some (.ref lt),some (.ref pr),some (.int ((ts.map (·.2.1)).map eO.lo).sum),some (.int tot),some (.int (b:Nat)),some (.ref A.p),some (.ref qa),some oh,some (.ref lp),some (.ref ll),some (.int (0+(i:Nat))),Nq,Us,none,none,none]/\Hg ts.length zr oh y i b/\GK C a m ((A,y)::zr) (ts.map (·.1)) ts qa pr lp ll us qs gU ms y.pa ls H') ?_ ?_
  rotate_left
  ·intro N3 Wf;ext;have Vg:H7 qa=some (.lst ((ts.map (·.1)).map V.str)):=(G7.W.lo _ G7.mq.1).2.2;have aek:H7 pr=some (.lst us):=(G7.W.lo _ G7.mp.1).2.2;refine⟨⟨⋯,⋯⟩,dW (fun c=>?_) (fun c=>?_)⟩
   ·have ib:i=b / 2:=by simp at c; omega
    rcases hf with⟨rfl,rfl,_⟩ | ⟨_,_,_,_,_,_,_,_,_,h⟩
    ·refine⟨pr,us,rfl,aek,fun l fl=>?_⟩;have s8:=aO fl (HO.lst us);have e8:upd H7 l (.lst us) l=some (.lst us):=aA;generalize upd H7 l (.lst us)=H8 at s8 e8 ⊢;have W8:=G7.W.grow s8;refine iK (y.ss.map kh) (fun R hR=>by ext; exact hR) (s8 _ _ Vg) (by have:=YO.ls; simp only[bN]; omega) (by simp only[bN]; omega) (dY _) (fun j x d H' hx hd s' R hR=>?_) fun acc vs H9 f9 s9 e9 a9=>?_
     ·rw[<- yn,cA] at hx;cases et:y.ns[j]? with
      | none=>rw[et] at hx; cases hx
      | some nm=>
      rw[et] at hx;cases hx;show mz _ _ _ _ _ _ _ [some (.str nm),some (.ref A.p)] H' _;ext;have YA:=(W8.grow s').ys.at_ (A,y) (dg ..);refine Me.of (m:="stand") (R:=fun p=>_) YA (fun _ _ _ _ _ _ _=>rfl) ?_;exact⟨A,y,j,nm,d,rfl,YA,YO,et,hd,fun v H5 s5 a5=>hR _ _ s5 a5⟩
     ·have s79:=s8.trans s9;refine KY (W8.grow s9) (s9 _ _ e8) (G7.au.mono s79) TO hps (.inr ⟨acc,vs,rfl,e9,a9⟩) (by have:=YO.ls; omega) YO.sg (by have:=YO.hs; rw[yt] at this; exact this) fun A2 J0 Ah W10=>?_
      have aah:=s79.trans Ah;exact Wf _ _ (uw ([(A2,qJ tot ts y.ss)]) ls _ m ⟨rfl,.inr ⟨A2,_,y.ts,y.pa,rfl,rfl,(Vr YO yt yn yp yo).symm,⟨by have:=YO.lt; omega,YO.tg⟩,by show(ts.map _).length=_; rw[bN],∅⟩,W10,G7.au.mono aah,G7.mq,G7.mp,G7.ml,G7.md,G7.mm,zW.mono aah.kp (fun l h _=>h) G7.mn⟩)
    ·omega
   ·have ib:i≠b / 2:=by simp at c; omega
    refine Wf _ _ (uw zr ls oh m ⟨rfl,?_,G7⟩);rcases hf with⟨h1,h2,h3⟩ | ⟨A2,z,ts0,j8,h1,h2,h3,h4,h5,h6⟩
    ·exact .inl ⟨h1,h2,∅⟩
    ·exact .inr ⟨A2,z,ts0,j8,h1,h2,h3,h4,h5,∅⟩
  intro σ' H8 O2; refine uP O2 fun zr ls oh m lC hg G8=>?_; clear O2; subst lC;clear G7 hf;obtain⟨cs,hcs⟩:∃cs,cs=(ts.map (·.1)).zip (gU.map fun l=>l.getD i 0):=⟨_,rfl⟩
  have CG:CmG y.ns cs:=by
   have l1:(ts.map (·.1)).length=(gU.map fun l=>l.getD i 0).length:=by rw[bN,bN,ll1]
   have e1:cs.map (·.1)=y.ns:=by rw[hcs,yn]; exact List.map_fst_zip ∅
   refine⟨by rw[e1]; exact YO.nn,fun c hc=>by rw[<- e1]; exact dZ.mpr ⟨c,hc,rfl⟩,?_,fun c hc=>?_⟩
   ·have:=pI List.length e1;rw[bN] at this;omega
   ·rw[hcs] at hc;have:=(Aq hc).2;obtain⟨l,hl,e⟩:=dZ.mp this;rw[<- e,ig];have g:=lg l hl;rw[cT (by have:=g.n; omega)]
    exact g.u _ (mZ _)
  refine u_ (fun σ' H'=>∃(sa:Addr)(zs:List V)(sc:Addr)(uc:List V)(ls:List (Addr×List V)),σ'=[some (.ref p),some (.ref lt),some (.ref pr),some (.int ((ts.map (·.2.1)).map eO.lo).sum),some (.int tot),some (.int (b:Nat)),some (.ref A.p),some (.ref qa),some oh,some (.ref lp),some (.ref ll),some (.int (0+(i:Nat))),some (.ref sa),some (.ref sc),none,none,none]/\aa H' (y.ss.map kh) zs/\aa H' (cs.map Yt) uc/\(sa,zs)∈ls/\sa≠ll/\(sc,uc)∈ls/\sc≠ll/\GK C a m ((A,y)::zr) (ts.map (·.1)) ts qa pr lp ll us qs gU ms y.pa ls H') ?_ ?_
  rotate_left
  ·intro N3 Wf;ext;have abi:H8 qa=some (.lst ((ts.map (·.1)).map V.str)):=(G8.W.lo _ G8.mq.1).2.2;have aet:H8 lp=some (.lst (qs.map V.ref)):=(G8.W.lo _ G8.ml.1).2.2;refine iK (y.ss.map kh) (fun R hR=>by ext; exact hR) abi (by have:=YO.ls; simp only[bN]; omega) (by simp only[bN]; omega) (dY _) (fun j x d H' hx hd s' R hR=>?_) fun acc vs H9 f9 s9 e9 a9=>?_
   ·rw[<- yn,cA] at hx;cases et:y.ns[j]? with
    | none=>rw[et] at hx; cases hx
    | some nm=>
    rw[et] at hx;cases hx;show mz _ _ _ _ _ _ _ [some (.str nm),some (.ref A.p)] H' _;ext;have YA:=(G8.W.grow s').ys.at_ (A,y) (dg ..);refine Me.of (m:="stand") (R:=fun p=>_) YA (fun _ _ _ _ _ _ _=>rfl) ?_;exact⟨A,y,j,nm,d,rfl,YA,YO,et,hd,fun v H5 s5 a5=>hR _ _ s5 a5⟩
   ·have W9:=G8.W.new f9 s9 e9;refine N_ (es:=cs.map Yt) (fun R hR=>by ext; exact hR) (s9 _ _ abi) (s9 _ _ aet) (by rw[bN,bN,bN,hcs,Gb,bN,bN]; omega) (by rw[bN,bN,hcs,Gb,bN,bN]; omega) (nY (aQ (by rw[bN]; have:=CG.l; omega))) (wg cs) (fun j x v e H' hx hv he s' R hR=>?_) fun Ol vs2 J0 Ah Wj e10 a10=>?_
    ·rw[cA,cA] at hx;rw[cA] at hv;cases et:ts[j]? with
     | none=>rw[et] at hx; cases hx
     | some t=>
     cases eq:qs[j]? with
     | none=>rw[eq] at hv; cases hv
     | some qj=>
     rw[et] at hx;rw[eq] at hv;cases hx;cases hv;have hj:j<gU.length:=by rw[<- lq]; exact(jF.mp eq).1
     have el:gU[j]?=some gU[j]:=cT hj;have hl:=lg _ (dC el)
     have ecs:cs[j]?=some (t.1,gU[j].getD i 0):=by
      rw[hcs,Kz];exact⟨by rw[cA,et]; rfl,by rw[cA,el]; rfl⟩
     rw[cA,ecs] at he;cases he;have eqj:H' qj=some (.lst (gU[j].map V.int)):=s' _ _ ((W9.lo _ (cI _ (G8.md j qj _ eq el).1)).2.2);ext;simp only[bQ,gH,vd,Kv,Qt,Option.join_some];rw[jE];have hib:i<gU[j].length:=by have:=hl.n; omega
     refine Ix.lst eqj (v:=.int (gU[j].getD i 0)) (by rw[Int.zero_add]; exact a_ (by rw[cA,ig,cT hib]; rfl)) ⟨⋯,fun p8 H8' f8 s8 e8=>?_⟩
     exact hR _ _ s8 (At.tup e8 (aa.cons (At.str _) (aa.cons (At.int _) aa.nil)))
    ·have abn:H8 ll=some (.lst (ms.map V.ref)):=(G8.W.lo _ G8.mm).2.2;exact⟨_,_,rfl,Wf _ _ (BW acc vs Ol vs2 ((Ol,vs2)::(acc,vs)::ls) ⟨rfl,a9.mono Ah,a10.mono rR,by simp,(fun z=>by rw[z,abn] at f9; cases f9),by simp,(fun z=>by rw[z,s9 _ _ abn] at Wj; cases Wj),G8.more (W9.new Wj Ah e10) (s9.trans Ah).kp (fun l hl=>cI _ (cI _ hl))⟩)⟩
  intro σ' H9 ZP; refine mK ZP fun sa zs sc uc ls BK az9 ac9 msa nsa uZ=>?_; clear ZP; subst BK; obtain⟨msc,nsc,G9⟩:=uZ;clear G8;have Vi:H9 ll=some (.lst (ms.map V.ref)):=(G9.W.lo _ G9.mm).2.2;have lms:=(zW.past G9.W G9.mn).length;refine u_ (fun σ' H'=>∃(mm pe:Addr)(xs:List V)(ls:List (Addr×List V)),σ'=[some (.ref p),some (.ref lt),some (.ref pr),some (.int ((ts.map (·.2.1)).map eO.lo).sum),some (.int tot),some (.int (b:Nat)),some (.ref A.p),some (.ref qa),some oh,some (.ref lp),some (.ref ll),some (.int (0+(i:Nat))),some (.ref sa),some (.ref sc),none,none,none]/\(pe,xs)∈ls/\aa H' ((qi y cs).map vU) xs/\aa H' (y.ss.map kh) zs/\aa H' (cs.map Yt) uc/\(sa,zs)∈ls/\(sc,uc)∈ls/\GK C a m (({ A with qW:=A.qW++[mm] },yM y cs)::zr) (ts.map (·.1)) ts qa pr lp ll us qs gU (ms++[pe]) (y.pa++[qi y cs]) ls H') ?_ ?_
  rotate_left
  ·intro N3 Wf;ext;have YA:=G9.W.ys.at_ (A,y) (dg ..);have esc:=(G9.W.lo _ msc).2.2;refine⟨.inl ⟨rfl,_,bT.of Vi⟩,?_⟩;refine Me.of (m:="beat") (R:=fun p=>_) YA (fun _ _ _ _ _ _ _=>rfl) ?_;refine⟨sc,uc,rfl,esc,fun pd fd=>?_⟩;have sD:=aO fd (HO.lst uc);have eD:upd H9 pd (.lst uc) pd=some (.lst uc):=aA;have npd:pd≠ll:=fun z=>by rw[z,Vi] at fd; cases fd
   generalize upd H9 pd (.lst uc)=HD at sD eD ⊢;have WDD:=G9.W.new fd sD eD;refine WDD.Vp (i:=0) rfl (dg ..) (ac9.mono sD) CG ∅ fun pe mm xs HE WE aE kE fE=>?_
   have npe:pe≠ll:=fun z=>by rw[z,sD _ _ Vi] at fE; cases fE
   simp only[List.set_cons_zero] at WE;have mE:(ll,ms.map V.ref)∈(pe,xs)::(pd,uc)::ls:=cI _ (cI _ G9.mm);have elE:=(WE.lo _ mE).2.2;refine⟨ll,ms.map V.ref,.ref pe,rfl,rfl,elE,aQ (by rw[bN,lms]; omega),?_⟩
   obtain⟨WF,kF⟩:=WE.put (vs':=(ms++[pe]).map V.ref) mE;rw[show ms.map V.ref++[V.ref pe]=(ms++[pe]).map V.ref by simp]
   generalize upd HE ll (.lst ((ms++[pe]).map V.ref))=HF at WF kF ⊢;have k9F:=sD.kp.trans (kE.trans kF);have inF:∀l∈(pe,xs)::(pd,uc)::ls,l.1≠ll->l∈(ll,(ms++[pe]).map V.ref)::((pe,xs)::(pd,uc)::ls).filter fun l=>l.1≠ll:=fun l hl n=>cI _ (Gd.mpr ⟨hl,by simpa using n⟩)
   have aEF:=aa.kp kF _ _ (jC _) aE;have LNF:=zW.mono k9F (fun l hl n=>inF l (cI _ (cI _ hl)) n) G9.mn;exact Wf _ _ (uw mm pe xs _ ⟨rfl,inF _ (dg ..) npe,aEF,aa.kp k9F _ _ (dY _) az9,aa.kp k9F _ _ (wg _) ac9,inF _ (cI _ (cI _ msa)) nsa,inF _ (cI _ (cI _ msc)) nsc,G9.put WF k9F (fun l hl n=>inF l (cI _ (cI _ hl)) n) (dg ..) (zW.snoc npe (inF _ (dg ..) npe) aEF LNF)⟩)
  intro σ' J0 ZM; refine uO ZM fun mm pe xs ls lC mpe axs az Ef=>?_; clear ZM; subst lC; obtain⟨ac,msa,msc,SM⟩:=Ef;clear G9 az9 ac9 Vi;obtain⟨BRr,TW2⟩:=abB (cs:=cs) YO PG.nw TW' CG.b yn yp;obtain⟨PG2,LG2⟩:=PG.Vp YO CG.b;have Y2O:=RZ (cs:=cs) YO ∅
  refine u_ (fun σ' H'=>σ'=[some (.ref p),some (.ref lt),some (.ref pr),some (.int ((ts.map (·.2.1)).map eO.lo).sum),some (.int tot),some (.int (b:Nat)),some (.ref A.p),some (.ref qa),some oh,some (.ref lp),some (.ref ll),some (.int (0+(i:Nat))),some (.ref sa),some (.ref sc),none,none,none]/\aK J0 H') ?_ ?_
  rotate_left
  ·intro N3 Wf;ext
   have abq:J0 ll=some (.lst (ms.map V.ref++[V.ref pe])):=by
    have:=(SM.W.lo _ SM.mm).2.2;rw[gJ] at this;exact this
   refine Ix.lst abq (Ho _ _) (Z7 ({ A with qW:=A.qW++[mm] }) (yM y cs) tot pr pe sa us xs zs ts (qi y cs) y.ss ⟨rfl,SM.W.ys.at_ ({ A with qW:=A.qW++[mm] },yM y cs) (dg ..),Y2O,(SM.W.lo _ SM.mp.1).2.2,SM.au,(SM.W.lo _ mpe).2.2,axs,(SM.W.lo _ msa).2.2,az,by rw[<- yt]; exact BRr,fun R8 Iu=>⟨true,rfl,?_⟩⟩)
   rw[aX ⋯]
   exact Wf _ _ ⟨rfl,Iu⟩
  rintro σ' R8 ⟨rfl,Iu⟩;ext;have F:=cH y (oO y.ns cs) y.ns.length;have G11:=SM.more (SM.W.grow Iu) Iu.kp (fun l hl=>hl);have fin:∀(zr':List (Ya×Yd))(ls':List (Addr×List V))(H':Hp),Hf ts.length zr' oh (yM y cs) (i+1) b->GK C a m (({ A with qW:=A.qW++[mm] },yM y cs)::zr') (ts.map (·.1)) ts qa pr lp ll us qs gU (ms++[pe]) (y.pa++[qi y cs]) ls' H'->N2 [some (.ref p),some (.ref lt),some (.ref pr),some (.int ((ts.map (·.2.1)).map eO.lo).sum),some (.int tot),some (.int (b:Nat)),some (.ref A.p),some (.ref qa),some oh,some (.ref lp),some (.ref ll),some (.int (0+(i:Nat))),some (.ref sa),some (.ref sc),none,none,none] H':=fun zr' ls' H' hf' G'=>hN2 _ _ (Z8 ({ A with qW:=A.qW++[mm] }) (yM y cs) zr' (ms++[pe]) ls' oh _ _ _ m ⟨rfl,by rw[Yx]; exact yt,by rw[Wr]; exact yn,F.p.trans yp,F.o.trans yo,by rw[Wq,cC,yl]; rfl,PG2,TW2,hf',G'⟩)
  refine⟨trivial,?_⟩;rcases hg with⟨rfl,rfl,hlt⟩ | ⟨A2,z,ts0,j8,rfl,rfl,Zr,T0z,zn,hle⟩
  ·rw[aX (by simp)]
   exact fin [] ls R8 (.inl ⟨rfl,rfl,∅⟩) G11
  ·rw[bh (by simp)]
   have YA2:=G11.W.ys.at_ (A2,z) (cI _ (dg ..));have YOz:dX z:=G11.W.yo (A2,z) (cI _ (dg ..));have ae3:T0 ts0 z.ns.length:=by rw[zn]; exact T0z
   obtain⟨bl1,bl2⟩:=Vn (j8:=j8) (cs:=cs) ae3 YOz;rw[<- Zr] at bl1 bl2;have hzn:z.ns=y.ns:=by rw[Zr]; rfl
   have hzp:z.pa.length<=i:=by
    have:=yl;rw[Zr] at this;have h2:(j8++z.pa).length=i:=this;rw[cC] at h2;omega
   refine Me.of (m:="beat") (R:=fun p=>_) YA2 (fun _ _ _ _ _ _ _=>rfl) ?_;refine G11.W.Vp (i:=1) rfl msc (aa.kp Iu.kp _ _ (wg _) ac) (by rw[hzn]; exact CG) ∅ fun pf mm2 xs2 HG WG aG kG fG=>?_
   simp only[List.set_cons_zero,List.set_cons_succ] at WG;have G12:=G11.more WG kG (fun l hl=>cI _ hl)
   have abp:HG ll=some (.lst (ms.map V.ref++[V.ref pe])):=by
    have:=(G12.W.lo _ G12.mm).2.2;rw[gJ] at this;exact this
   refine Ix.lst abp (Ho _ _) ?_;have epf:=(G12.W.lo (pf,xs2) (dg ..)).2.2;have epe:=(G12.W.lo (pe,xs) (cI _ mpe)).2.2;have abC:=aa.kp (Iu.kp.trans kG) _ _ (jC _) axs;rw[<- bl1] at aG;have sdR:SD 3 (Ss (qi y cs)):=SD.ln (fun r hr=>YO.str (abA r hr)) (iH (Y2O.pl _ (by rw[Wq]; simp)) ⋯)
   obtain⟨m1,m2,m3⟩:=SD.data 3 _ sdR;refine⟨Ss (qi y cs),Ss (qi y cs),At.lst epf aG,At.lst epe abC,m1,m1,m2,m2,∅,?_⟩
   rw[SeqAt.eqv_refl _ m2,aX (by simp)]
   exact fin _ _ HG (.inr ⟨{ A2 with qW:=A2.qW++[mm2] },yM z cs,ts0,j8,rfl,rfl,bl2,T0z,by rw[Wr]; exact zn,∅⟩) G12
 rintro σ H7 ⟨ib,hib,A,y,zr,ms,ls,oh,QS,Nq,Us,m,rfl,yt,yn,yp,yo,yl,PG,TW',hf,G7⟩;rw[hib] at yl hf;have YO:dX y:=G7.W.yo (A,y) (dg ..);have lms:=(zW.past G7.W G7.mn).length;have LA:=(zW.past G7.W G7.mn).R1;have abo:H7 ll=some (.lst (ms.map V.ref)):=(G7.W.lo _ G7.mm).2.2;have Vg:H7 qa=some (.lst ((ts.map (·.1)).map V.str)):=(G7.W.lo _ G7.mq.1).2.2;have lns:y.ns.length=ts.length:=by rw[yn,bN]
 obtain⟨A2,z,ts0,j8,rfl,rfl,Zr,T0z,zn,_⟩:∃A2 z ts0 j8,zr=[(A2,z)]/\oh=V.ref A2.p/\y=lift ts0 j8 z/\T0 ts0 ts.length/\z.ns.length=ts.length/\b / 2<b:=by
  rcases hf with⟨_,_,h⟩ | h
  ·omega
  ·exact h
 have YA7:=G7.W.ys.at_ (A,y) (dg ..);have YB7:=G7.W.ys.at_ (A2,z) (cI _ (dg ..));have YOz:dX z:=G7.W.yo (A2,z) (cI _ (dg ..));refine u_ (fun σ H'=>∃o14 o15 o16,σ=[some (.ref p),some (.ref lt),some (.ref pr),some (.int ((ts.map (·.2.1)).map eO.lo).sum),some (.int tot),some (.int (b:Nat)),some (.ref A.p),some (.ref qa),some (.ref A2.p),some (.ref lp),some (.ref ll),QS,Nq,Us,o14,o15,o16]/\aK H7 H') ?_ ?_
 rotate_left
 ·intro N hN;rw[tu];ext;refine EK.of Vg (fun i σ H'=>∃o14 o15 o16,σ=[some (.ref p),some (.ref lt),some (.ref pr),some (.int ((ts.map (·.2.1)).map eO.lo).sum),some (.int tot),some (.int (b:Nat)),some (.ref A.p),some (.ref qa),some (.ref A2.p),some (.ref lp),some (.ref ll),QS,Nq,Us,o14,o15,o16]/\aK H7 H') (Eg _ _ _ ⟨rfl,aK.refl _⟩) (fun i σ H' _ ⟨_,_,_,_,s⟩=>s _ _ Vg) ?_ (fun σ H' h=>hN _ _ h);rintro i xv σ H1 pt hxv ⟨o14,o15,o16,rfl,s1⟩ fp;rw[<- yn,cA] at hxv;cases en:y.ns[i]? with
  | none=>rw[en] at hxv; cases hxv
  | some nm=>
  rw[en] at hxv;cases hxv;have et:upd H1 pt (HO.tup [.int (i:Nat),V.str nm]) pt=some (HO.tup [.int (i:Nat),V.str nm]):=aA;have s12:=s1.trans (aO fp (HO.tup [.int (i:Nat),V.str nm]));generalize upd H1 pt (HO.tup [.int (i:Nat),V.str nm])=H2 at et s12 ⊢;have Y2:=YA7.mono s12;have LA2:=LA.mono s12;have el2:=s12 _ _ abo;have hin:i<y.ns.length:=(jF.mp en).1;have lts:=YO.lt;have Vf:y.ts[i]?=some y.ts[i]:=cT ∅
  have esm:=PG.sm i _ Vf;rw[esm] at Vf;refine(jM pt _ ⟨rfl,fK.of et,rfl,?_⟩);ext;have pl3:([V.int 1,V.int 2,V.int 3]:List V).length=3:=rfl;refine RG (xs:=[.int 1,.int 2,.int 3]) (fun j=>[some (.int (1+(j:Nat)))]) (fun _=>rfl) (fun R hR=>?_) (fun H3 acc s3 f3=>?_)
  ·ext;exact⟨⋯,fun p H' f s e=>hR p H' s e⟩
  have pA3:=LA2.mono s3;have eA3:=s3 _ _ el2
  have inner:∀(q:Nat)(f:Rw->Int),(∀r H v,At H (vU r) v->∃b ys,v=.ref b/\H b=some (.tup ys)/\ys[q]?=some (.int (f r)))->∀H' (R:VK),aK H3 H'->(∀dF,aK H' dF->R (.int (dR f y.pa i)) dF)->Ov (fun vs H Q=>∃p ns,vs=[V.ref p]/\(H p=some (HO.lst (List.map V.int ns))\/H p=some (HO.tup (List.map V.int ns)))/\Q (V.int ns.sum) H) (iz (iB [2,0] (p_ K (mU 1)) (Ia yV (Ia yV (mU 0) (mU 1)) (mU 2))) qt) [some (.int (q:Nat)),some (.ref ll),some (.int (i:Nat))] H' R:=by
   intro q f hf H' R s' hR;ext;refine iK ((y.pa.map fun rs=>((rs[i]?).map f).getD 0).map .int) (fun R hR=>by ext; exact hR) (s' _ _ eA3) (by simp; omega) (by rw[bN]; omega) (gq _) (fun k x d H4 hx hd s4 R2 hR2=>?_) fun Ol vs H5 f5 s5 e5 a5=>?_
   ·obtain⟨d',hd',hv⟩:=(pA3.mono (s'.trans s4)).get hx;rw[cA] at hd';cases er:y.pa[k]? with
    | none=>rw[er] at hd'; cases hd'
    | some rs=>
    rw[er] at hd';cases hd';rw[cA,cA,er] at hd;cases hd;have lr:=(PG.ln rs (dC er)).l;have hr':rs[i]?=some rs[i]:=cT ∅
    obtain⟨b,xs,rfl,eb,ab⟩:∃b xs,x=.ref b/\H4 b=some (.lst xs)/\aa H4 (rs.map vU) xs:=by
     unfold Ss At at hv;obtain⟨b,xs,h1,h2,h3⟩:=hv;exact⟨b,xs,h1,h2,h3⟩
    obtain⟨u,hu,hau⟩:=ab.getD (i:=i) (d:=vU rs[i]) (by rw[cA,hr']; rfl)
    obtain⟨c,ys,rfl,ec,hy⟩:=hf _ _ _ hau;show yV (V.ref b) (V.int (i:Nat)) H4 fun x H1=>yV x (V.int (q:Nat)) H1 R2;refine Ix.lst eb (a_ hu) ?_;refine Ix.tup ec (a_ hy) (hR2 _ _ (aK.refl _) ?_);show At H4 (.int (((rs[i]?).map f).getD 0)) _;rw[hr'];exact At.int _
   ·have:=cF a5;subst this;exact⟨Ol,_,rfl,.inl e5,hR _ s5⟩
  have row:∀(r:Rw)(H:Hp)(v:V),At H (vU r) v->∃b g,v=.ref b/\H b=some (.tup [.str r.n,.int r.c,.int r.d,.int r.a,g]):=fun r H v h=>by
   unfold vU At at h;obtain⟨b,ys,rfl,eb,ay⟩:=h;have ze:=ay; clear ay; refine bG ze fun _ _ cL h1 lC=>?_; clear ze; subst cL; refine bG lC fun _ _ BJ h2 Ef=>?_; clear lC; subst BJ; refine bG Ef fun _ _ uZ h3 En=>?_; clear Ef; subst uZ; refine bG En fun _ _ ac0 h4 Em=>?_; clear En; subst ac0; refine bG Em fun g _ acY h5 ay=>?_; clear Em; subst acY;subst ay;unfold At at h1 h2 h3 h4;subst h1 h2 h3 h4;exact⟨b,g,rfl,eb⟩
  refine⟨fun j ys H'=>ys=([dR Rw.c y.pa i,dR Rw.d y.pa i,dR Rw.a y.pa i].take j).map V.int/\H' acc=some (.lst ys)/\aK H3 H',⟨rfl,aA,aO f3 _⟩,fun j ys H' h=>h.2.2,fun j x ys H' hx h=>?_,fun ys H' h=>?_⟩
  ·obtain⟨rfl,ea,sa⟩:=h;rcases j with _ | _ | _ | j
   ·cases hx;refine⟨fun R hR=>hR,inner 1 Rw.c (fun r H v h=>?_) _ _ sa fun H4 s4=>⟨s4 _ _ ea,aQ (by rw[bN,kI]; exact iH (Ge _ _) ⋯),rfl,aA,(sa.trans s4).fW f3⟩⟩
    obtain⟨b,g,h1,h2⟩:=row r H v h;exact⟨b,_,h1,h2,rfl⟩
   ·cases hx;refine⟨fun R hR=>hR,inner 2 Rw.d (fun r H v h=>?_) _ _ sa fun H4 s4=>⟨s4 _ _ ea,aQ (by rw[bN,kI]; exact iH (Ge _ _) ⋯),rfl,aA,(sa.trans s4).fW f3⟩⟩
    obtain⟨b,g,h1,h2⟩:=row r H v h;exact⟨b,_,h1,h2,rfl⟩
   ·cases hx;refine⟨fun R hR=>hR,inner 3 Rw.a (fun r H v h=>?_) _ _ sa fun H4 s4=>⟨s4 _ _ ea,aQ (by rw[bN,kI]; exact iH (Ge _ _) ⋯),rfl,aA,(sa.trans s4).fW f3⟩⟩
    obtain⟨b,g,h1,h2⟩:=row r H v h;exact⟨b,_,h1,h2,rfl⟩
   ·cases hx
  ·obtain⟨rfl,ea,sa⟩:=h;refine⟨acc,_,rfl,ea,fun l fl=>?_⟩;have s5:=aO fl (HO.tup (([dR Rw.c y.pa i,dR Rw.d y.pa i,dR Rw.a y.pa i].take 3).map V.int));have e5:upd H' l (HO.tup (([dR Rw.c y.pa i,dR Rw.d y.pa i,dR Rw.a y.pa i].take 3).map V.int)) l=some (HO.tup (([dR Rw.c y.pa i,dR Rw.d y.pa i,dR Rw.a y.pa i].take 3).map V.int)):=aA
   replace s5:aK H' (upd H' l (.tup (([dR Rw.c y.pa i,dR Rw.d y.pa i,dR Rw.a y.pa i].take [V.int 1,V.int 2,V.int 3].length).map V.int))):=s5
   replace e5:upd H' l (.tup (([dR Rw.c y.pa i,dR Rw.d y.pa i,dR Rw.a y.pa i].take [V.int 1,V.int 2,V.int 3].length).map V.int)) l=some (HO.tup ([dR Rw.c y.pa i,dR Rw.d y.pa i,dR Rw.a y.pa i].map V.int)):=e5
   generalize upd H' l (.tup (([dR Rw.c y.pa i,dR Rw.d y.pa i,dR Rw.a y.pa i].take [V.int 1,V.int 2,V.int 3].length).map V.int))=H5 at s5 e5 ⊢;have Zg:=s3.trans (sa.trans s5);have Y5:=Y2.mono Zg;generalize [dR Rw.c y.pa i,dR Rw.d y.pa i,dR Rw.a y.pa i]=cl at e5 Vf
   have hcl:cl.length<=1000:=by
    have:=YO.tg _ (dC Vf);omega
   obtain⟨m1,m2,m3⟩:=SD.data 2 (j9 cl) (SD.ints (n:=0) hcl);have Z5:=(YB7.mono s12).mono Zg;refine Me.of (m:="counts") (R:=fun p=>_) Y5 (fun _ _ _ _ _ _ _=>rfl) (BW A y i nm (j9 cl) ⟨rfl,Y5,YO,en,by show(y.ts.map j9)[i]?=_; rw[cA,Vf]; rfl,fun v H6 s6 av=>?_⟩)
   refine⟨j9 cl,j9 cl,av,At.tup (s6 _ _ e5) (dD cl),m1,m1,m2,m2,∅,?_⟩
   rw[SeqAt.eqv_refl _ m2,aX (by simp)]
   have lss:=YO.ls;obtain⟨st,es⟩:∃st,y.ss[i]?=some st:=⟨_,cT ∅⟩
   have enz:z.ns[i]?=some nm:=by rw[Zr] at en; exact en
   have esz:z.ss[i]?=some st:=by rw[Zr] at es; exact es
   refine Me.of (m:="stand") (R:=fun p=>_) (Z5.mono s6) (fun _ _ _ _ _ _ _=>rfl) (BW A2 z i nm (kh st) ⟨rfl,Z5.mono s6,YOz,enz,by show(z.ss.map kh)[i]?=_; rw[cA,esz]; rfl,fun v2 H8 s8 a8=>?_⟩)
   have Y8:=(Y5.mono s6).mono s8;refine Me.of (m:="stand") (R:=fun p=>_) Y8 (fun _ _ _ _ _ _ _=>rfl) (BW A y i nm (kh st) ⟨rfl,Y8,YO,en,by show(y.ss.map kh)[i]?=_; rw[cA,es]; rfl,fun v3 H9 s9 a9=>?_⟩)
   obtain⟨n1,n2,n3⟩:=SD.data 4 _ (SD.stn (n:=0) (YO.sg st (dC es)).is);refine⟨kh st,kh st,a8.mono s9,a9,n1,n1,n2,n2,∅,?_⟩
   rw[SeqAt.eqv_refl _ n2,aX (by simp)]
   exact⟨_,_,_,rfl,s12.trans (Zg.trans (s6.trans (s8.trans s9)))⟩
 rintro σ H8 ⟨o14,o15,o16,rfl,s8⟩;ext;have Y8:=YA7.mono s8;refine Me.of (m:="told") (R:=fun p=>_) Y8 (fun _ _ _ _ _ _ _=>rfl) ⟨A,y,rfl,Y8,YO,fun p9 ms9 H9 _ _ _ s9 e9 pa9=>?_⟩;have n5:=YO.n5;obtain⟨m1,m2,m3⟩:=SD.data 4 _ (SD.lns (pa:=y.pa) (fun rs hrs r hr=>YO.str ((PG.ln rs hrs).g r hr).2) ∅ (fun rs hrs=>by have:=(PG.ln rs hrs).l; omega))
 refine⟨.list (y.pa.map Ss),.list (y.pa.map Ss),At.lst e9 pa9.R1,At.lst (s9 _ _ (s8 _ _ abo)) (LA.mono (s8.trans s9)),m1,m1,m2,m2,∅,?_⟩
 rw[SeqAt.eqv_refl _ m2,bh rfl];refine Me.of (m:="beats") (R:=fun p=>_) (Y8.mono s9) (fun _ _ _ _ _ _ _=>rfl) ⟨A,y,rfl,Y8.mono s9,YO,?_⟩;show Xi _ _ _ _;rw[jW,show decide (((y.pa.length:Nat):Int)=(b:Nat))=true by simp; omega]
 exact q _
end
theorem Z9{us:List AA}{n:Nat}(h:us.length=n+1):∃a r,us=a::r/\r.length=n:=by
 cases us with
 | nil=>cases h
 | cons a r=>exact⟨a,r,rfl,Nat.succ.inj h⟩
theorem Pa{us:List AA}(h:us.length=1):∃a,us=[a]:=by
 obtain⟨a,r,rfl,g⟩:=Z9 h;cases List.length_eq_zero_iff.mp g;exact⟨a,rfl⟩
theorem Mq{us:List AA}(h:us.length=2):∃a a0,us=[a,a0]:=by
 obtain⟨a,r,rfl,g⟩:=Z9 h;obtain⟨a0,rfl⟩:=Pa g;exact⟨a,a0,rfl⟩
theorem Ou{us:List AA}(h:us.length=3):∃a a0 a1,us=[a,a0,a1]:=by
 obtain⟨a,r,rfl,g⟩:=Z9 h;obtain⟨a0,a1,rfl⟩:=Mq g;exact⟨a,a0,a1,rfl⟩
theorem un4{us:List AA}(h:us.length=4):∃a a0 a1 a2,us=[a,a0,a1,a2]:=by
 obtain⟨a,r,rfl,g⟩:=Z9 h;obtain⟨a0,a1,a2,rfl⟩:=Ou g;exact⟨a,a0,a1,a2,rfl⟩
theorem un5{us:List AA}(h:us.length=5):∃a a0 a1 a2 a3,us=[a,a0,a1,a2,a3]:=by
 obtain⟨a,r,rfl,g⟩:=Z9 h;obtain⟨a0,a1,a2,a3,rfl⟩:=un4 g;exact⟨a,a0,a1,a2,a3,rfl⟩
theorem all_mk{l:PySem.W.OpenLaw}{w:World}{K:Frag}{h:Heap}{mg:Str->Option AA}{fa:Addr}(X:K.In h)(G:h.Ns mainGlobals mg)(hfa:mg "law" = some (.ref fa))
  {f0:Addr} (e0:qm K "is_name" tW f0)
  {f1:Addr} (e1:qm K "wish" Ip f1)
  {f2:Addr} (e2:qm K "rule_wish" nO f2)
  {f3:Addr} (e3:qm K "row_says" qw f3)
  {f4:Addr} (e4:qm K "first_stand" jP f4)
  {f5:Addr} (e5:qm K "hands_of" qy f5)
  {f6 T6:Addr} (e6:Wz K "beat" Ir f6 T6 12)
  {f7:Addr} (e7:qm K "since_and_look" gF f7)
  {f8:Addr} (e8:qm K "change_of" nP f8)
  {f9:Addr} (e9:qm K "with_change" jO f9)
  {Wj:Addr} (e10:qm K "sent_home" nM Wj)
  {f11:Addr} (e11:qm K "check_posts" jQ f11)
  {f12:Addr} (Wl:qm K "check_least" jR f12)
  {f13:Addr} (Ys:qm K "check_onward" i_ f13)
  {f14:Addr} (e14:qm K "check_stands" iZ f14)
  {f15:Addr} (Zt:qm K "_law_tape" w6 f15)
  {f16:Addr} (e16:qm K "_law_draw" xj f16)
  {f17:Addr} (e17:qm K "_law_units" tO f17)
  {f18:Addr} (e18:qm K "_law_row" Ci f18)
  {f19:Addr} (e19:qm K "_law_rules" tQ f19)
  {f20:Addr} (e20:qm K "_law_post" xg f20)
  {f21:Addr} (e21:qm K "_law_names" tU f21)
  {f22:Addr} (e22:qm K "_law_rows" xf f22)
  {f23:Addr} (e23:qm K "_law_loads" tV f23)
  {f24:Addr} (e24:qm K "_law_ready" tR f24)
  {f25:Addr} (e25:qm K "_law_post_right" iW f25)
  {f26:Addr} (e26:qm K "_law_beat_right" iY f26)
  {f27:Addr} (e27:qm K "law" wZ f27)
  {eN:Addr} (jY:ZD K "Yard" "Yard.__init__" gG eN)
  (zu:cJ K eN "total")
  (zE:cJ K eN "order")
  (zx:cJ K eN "posts")
  (vJ:cJ K eN "onwards")
  (yf:cJ K eN "stands")
  (vI:cJ K eN "tallies")
  (Df:cJ K eN "past")
  {pP:Addr} (pO:Ot K eN "check_names" "Yard.check_names" fu pP)
  {zO:Addr} (zH:Ot K eN "stand" "Yard.stand" jT zO)
  {zP:Addr} (zM:Ot K eN "hands" "Yard.hands" jU zP)
  {rY:Addr} (rQ:Ot K eN "post_beat" "Yard.post_beat" fX rY)
  {Dq:Addr} (Dj:Ot K eN "beat" "Yard.beat" lH Dq)
  {Dp:Addr} (Di:Ot K eN "told" "Yard.told" lG Dp)
  {yw:Addr} (yj:Ot K eN "counts" "Yard.counts" jb yw)
  {zQ:Addr} (zN:Ot K eN "beats" "Yard.beats" jV zQ)
  (zV:nsIn K mainGlobals "beat_beats" = some (some (.ref f6)))
  {bL:Addr} (Mf:nsIn K mainGlobals "BadYard" = some (some (.ref bL)))
  (BP:excIn K bL WW "ValueError.__new__" = true)
  (BV:exmOne K (.ref bL) (.ref bL)=some true)
  (Z3:Nb K "all")
  (BL:Nb K "isinstance")
  (ZW:Nb K "str")
  (Z1:Nb K "len")
  (Z0:Nb K "max")
  (ZZ:Nb K "min")
  (ZV:Nb K "sum")
  (WL:Nb K "list")
  (HH:Nb K "reversed")
  (S8:Nb K "range")
  (S7:Nb K "tuple")
  (Eo:Nb K "enumerate")
  (ZX:Nb K "set")
  (Z4:Nb K "abs")
  (Z2:Nb K "int")
  (ZR:Nb K "zip")
  (WM:Nb K "dict")
  {Ph Pg Pb:Tok} (Ut:NT K "WHATS" [.str "come" Ph,.str "done" Pg,.str "wait" Pb])
  (XJ:Eb K "OVER" "over")
  (Uu:Eb K "UNDER" "under")
  (XM:Eb K "EACH" "each")
  (Nt:Eb K "LETTERS" "abcdefghijklmnopqrstuvwxyz")
  (yh:Ni K "MOST_LETTERS" 8)
  (Dh:Ni K "MOST_HANDS" 12)
  (yg:Ni K "TRIPLES_SEEN" 3)
  (Dg:Ni K "MOST_POSTS" 5) :
  ∃fd:FuncData,(∀(s:AB)(v:AA),BindsTo s fd ⟨[v],[]⟩ [("_law_script",v)])/\∀base:Heap,K.In base->base.Ns mainGlobals mg->bF l.prog w K mg base iy 8 fa fd ["_law_script"] (Ke K):=by
 obtain⟨h0⟩:=e0.has X G (ps:=["thing"]) fun _ _ _ _ _ _ us hl=>by obtain⟨_,rfl⟩:=Pa hl; rfl
 obtain⟨h1⟩:=e1.has X G (ps:=["post","hands","newest"]) fun _ _ _ _ _ _ us hl=>by obtain⟨_,_,_,rfl⟩:=Ou hl; rfl
 obtain⟨h2⟩:=e2.has X G (ps:=["rule","hands","newest"]) fun _ _ _ _ _ _ us hl=>by obtain⟨_,_,_,rfl⟩:=Ou hl; rfl
 obtain⟨h3⟩:=e3.has X G (ps:=["row","hands","newest"]) fun _ _ _ _ _ _ us hl=>by obtain⟨_,_,_,rfl⟩:=Ou hl; rfl
 obtain⟨h4⟩:=e4.has X G (ps:=["post"]) fun _ _ _ _ _ _ us hl=>by obtain⟨_,rfl⟩:=Pa hl; rfl
 obtain⟨h5⟩:=e5.has X G (ps:=["stand"]) fun _ _ _ _ _ _ us hl=>by obtain⟨_,rfl⟩:=Pa hl; rfl
 obtain⟨h6⟩:=e6.has X G (ps:=["post","stand","come","free"]) (fun _ _ _ _ _ _ _ us hl=>by
  rw[qF] at hl;obtain⟨_,_,_,_,rfl⟩:=un4 hl
  exact⟨_,rfl,rfl⟩) fun _ _ _ _ _ _ _ us hl=>by
  obtain⟨_,_,_,rfl⟩:=Ou (Nat.succ.inj ((cC).symm.trans hl));exact⟨_,rfl,rfl⟩
 obtain⟨h7⟩:=e7.has X G (ps:=["post","since","rest"]) fun _ _ _ _ _ _ us hl=>by obtain⟨_,_,_,rfl⟩:=Ou hl; rfl
 obtain⟨h8⟩:=e8.has X G (ps:=["post","hands","newest","free"]) fun _ _ _ _ _ _ us hl=>by obtain⟨_,_,_,_,rfl⟩:=un4 hl; rfl
 obtain⟨h9⟩:=e9.has X G (ps:=["post","stand","change"]) fun _ _ _ _ _ _ us hl=>by obtain⟨_,_,_,rfl⟩:=Ou hl; rfl
 obtain⟨h10⟩:=e10.has X G (ps:=["ready","called","many"]) fun _ _ _ _ _ _ us hl=>by obtain⟨_,_,_,rfl⟩:=Ou hl; rfl
 obtain⟨h11⟩:=e11.has X G (ps:=["total","posts"]) fun _ _ _ _ _ _ us hl=>by obtain⟨_,_,rfl⟩:=Mq hl; rfl
 obtain⟨h12⟩:=Wl.has X G (ps:=["total","posts"]) fun _ _ _ _ _ _ us hl=>by obtain⟨_,_,rfl⟩:=Mq hl; rfl
 obtain⟨h13⟩:=Ys.has X G (ps:=["onward","behind"]) fun _ _ _ _ _ _ us hl=>by obtain⟨_,_,rfl⟩:=Mq hl; rfl
 obtain⟨h14⟩:=e14.has X G (ps:=["total","posts","stands"]) fun _ _ _ _ _ _ us hl=>by obtain⟨_,_,_,rfl⟩:=Ou hl; rfl
 obtain⟨h15⟩:=Zt.has X G (ps:=["_law_script","_law_k"]) fun _ _ _ _ _ _ us hl=>by obtain⟨_,_,rfl⟩:=Mq hl; rfl
 obtain⟨h16⟩:=e16.has X G (ps:=["_law_tape_here","_law_many"]) fun _ _ _ _ _ _ us hl=>by obtain⟨_,_,rfl⟩:=Mq hl; rfl
 obtain⟨h17⟩:=e17.has X G (ps:=["_law_tape_here"]) fun _ _ _ _ _ _ us hl=>by obtain⟨_,rfl⟩:=Pa hl; rfl
 obtain⟨h18⟩:=e18.has X G (ps:=["_law_tape_here","_law_small"]) fun _ _ _ _ _ _ us hl=>by obtain⟨_,_,rfl⟩:=Mq hl; rfl
 obtain⟨h19⟩:=e19.has X G (ps:=["_law_tape_here","_law_small"]) fun _ _ _ _ _ _ us hl=>by obtain⟨_,_,rfl⟩:=Mq hl; rfl
 obtain⟨h20⟩:=e20.has X G (ps:=["_law_tape_here"]) fun _ _ _ _ _ _ us hl=>by obtain⟨_,rfl⟩:=Pa hl; rfl
 obtain⟨h21⟩:=e21.has X G (ps:=["_law_tape_here","_law_many"]) fun _ _ _ _ _ _ us hl=>by obtain⟨_,_,rfl⟩:=Mq hl; rfl
 obtain⟨h22⟩:=e22.has X G (ps:=["_law_tape_here"]) fun _ _ _ _ _ _ us hl=>by obtain⟨_,rfl⟩:=Pa hl; rfl
 obtain⟨h23⟩:=e23.has X G (ps:=["_law_tapes","_law_many","_law_beats"]) fun _ _ _ _ _ _ us hl=>by obtain⟨_,_,_,rfl⟩:=Ou hl; rfl
 obtain⟨h24⟩:=e24.has X G (ps:=["_law_stand"]) fun _ _ _ _ _ _ us hl=>by obtain⟨_,rfl⟩:=Pa hl; rfl
 obtain⟨h25⟩:=e25.has X G (ps:=["_law_post_here","_law_ahead","_law_behind","_law_row_here","_law_free"]) fun _ _ _ _ _ _ us hl=>by obtain⟨_,_,_,_,_,rfl⟩:=un5 hl; rfl
 obtain⟨h26⟩:=e26.has X G (ps:=["_law_yard","_law_total","_law_rows_here","_law_line","_law_ahead"]) fun _ _ _ _ _ _ us hl=>by obtain⟨_,_,_,_,_,rfl⟩:=un5 hl; rfl
 have zU:=(mg_of X G zV).trans ((mg_of X G e6.ns).symm.trans h6.m)
 obtain⟨Lh⟩:=jY.has X G (ps:=["self","total","posts","stands"]) (fun _ _ _ _ _ _ _ us hl=>by
  rw[qF] at hl;obtain⟨_,_,_,_,rfl⟩:=un4 hl
  exact⟨_,rfl,rfl⟩) fun _ _ _ _ _ _ _ us hl=>by
  obtain⟨_,_,_,rfl⟩:=Ou (Nat.succ.inj ((cC).symm.trans hl));exact⟨_,rfl,rfl⟩
 have gA:ZY K eN:=⟨jY.c,zu,zE,zx,vJ,yf,vI,Df⟩;obtain⟨ie⟩:=pO.has (ps:=["self","names"]) fun _ _ _ _ _ _ us hl=>by obtain⟨_,_,rfl⟩:=Mq hl; rfl
 obtain⟨oJ⟩:=zH.has (ps:=["self","name"]) fun _ _ _ _ _ _ us hl=>by obtain⟨_,_,rfl⟩:=Mq hl; rfl
 obtain⟨oK⟩:=zM.has (ps:=["self"]) fun _ _ _ _ _ _ us hl=>by obtain⟨_,rfl⟩:=Pa hl; rfl
 obtain⟨ji⟩:=rQ.has (ps:=["self","name","come"]) fun _ _ _ _ _ _ us hl=>by obtain⟨_,_,_,rfl⟩:=Ou hl; rfl
 obtain⟨qe⟩:=Dj.has (ps:=["self","comes"]) fun _ _ _ _ _ _ us hl=>by obtain⟨_,_,rfl⟩:=Mq hl; rfl
 obtain⟨qb⟩:=Di.has (ps:=["self"]) fun _ _ _ _ _ _ us hl=>by obtain⟨_,rfl⟩:=Pa hl; rfl
 obtain⟨mQ⟩:=yj.has (ps:=["self","name"]) fun _ _ _ _ _ _ us hl=>by obtain⟨_,_,rfl⟩:=Mq hl; rfl
 obtain⟨oM⟩:=zN.has (ps:=["self"]) fun _ _ _ _ _ _ us hl=>by obtain⟨_,rfl⟩:=Pa hl; rfl
 have B:Bi mg:=⟨mg_none_of X G Z3,mg_none_of X G BL,mg_none_of X G ZW,mg_none_of X G Z1,mg_none_of X G Z0,mg_none_of X G ZZ,mg_none_of X G ZV,mg_none_of X G WL,mg_none_of X G HH,mg_none_of X G S8,mg_none_of X G S7,mg_none_of X G Eo,mg_none_of X G ZX,mg_none_of X G Z4,mg_none_of X G Z2,mg_none_of X G ZR,mg_none_of X G WM⟩;have O:Co K mg:=⟨(let ⟨a,n,_,z,m⟩:=Ut; ⟨a,mg_of X G z,⟨_,m,rfl,rfl⟩,fun H=>.inr ⟨_,_,n,m,rfl,rfl,(by show 3<=sizeLine; decide),(.cons ⟨_,rfl⟩ (.cons ⟨_,rfl⟩ (.cons ⟨_,rfl⟩ .nil)))⟩⟩),XJ.gs X G,Uu.gs X G,XM.gs X G,Nt.gs X G,yh.gi X G,Dh.gi X G,yg.gi X G,Dg.gi X G⟩
 have Z:ZL K mg bL:=⟨mg_of X G Mf,BP,BV⟩;obtain⟨oc,od,an,sl,kV,dc,pm,cd,ct,ea,el,ec,ek0⟩:=e27;have e:=hfa.symm.trans (mg_of X G ea);cases e;refine⟨fnOf "law" "law" (b7 wZ) (bK wZ) (aD wZ) .none kV dc pm an cd ct,fun s v=>.of_eq rfl,fun base _ _=>?_⟩;have F:=JB (st:=wZ) el ec ek0;have Hi:=h15.ct l.prog w base (Ng (k:=0) h15.F B);have di:=h16.ct l.prog w base (Nk (k:=0) h16.F B);have l_:=h17.ct l.prog w base (Jh (k:=1) h17.F B (di.mono ⋯))
 have JP:=h18.ct l.prog w base (QR (k:=2) h18.F B (di.mono ⋯) (l_.mono ⋯))
 have DP:=h19.ct l.prog w base (Ji (k:=3) h19.F B (di.mono ⋯) (JP.mono ⋯))
 have Hk:=h20.ct l.prog w base (Nj (k:=4) h20.F B (di.mono ⋯) (l_.mono ⋯) (DP.mono ⋯))
 have DR:=h21.ct l.prog w base (Jk (k:=1) h21.F B (di.mono ⋯))
 have Hj:=h22.ct l.prog w base (Nh (k:=5) h22.F B (di.mono ⋯) (Hk.mono ⋯) (DR.mono ⋯))
 have DW:=h23.ct l.prog w base (Jl (k:=2) h23.F B (di.mono ⋯) (l_.mono ⋯))
 have DQ:=h24.ct l.prog w base (Jj (k:=0) h24.F);have sO:=h25.ct l.prog w base (vB (k:=1) h25.F B (DQ.mono ⋯))
 have bz:=ie.ct jY.c l.prog w base (oA (k:=0) ie.F B gA);have cg:=oJ.ct jY.c l.prog w base (x_ (k:=1) oJ.F gA (bz.mono ⋯))
 have cW:=h5.ct l.prog w base (Gy (k:=0) h5.F B);have dI:=oK.ct jY.c l.prog w base (yc (k:=1) oK.F B gA (cW.mono ⋯))
 have sS:=h26.ct l.prog w base (vC (k:=2) h26.F B gA (sO.mono ⋯) (cg.mono ⋯) (dI.mono ⋯))
 have uq:=h0.ct l.prog w base (Jm (k:=0) h0.F B O);have jq:=h13.ctE l.prog w base (vG (k:=0) h13.F Z);have j4:=h12.ctE l.prog w base (xZ (k:=0) h12.F B Z);have j0:=h11.ct l.prog w base (xY (k:=1) h11.F B O (uq.mono ⋯) (jq.mono ⋯) (j4.mono ⋯))
 have jZ:=h4.ct l.prog w base (xX (k:=0) h4.F B);have jo:=h14.ct l.prog w base (vD (k:=1) h14.F B (cW.mono ⋯))
 have ur:=rP (k:=2) Lh.F B gA (j0.mono ⋯) (jZ.mono ⋯) (jo.mono ⋯)
 have RQ:=Lh.ctE l.prog w base ur;have DX:=RQ.calm;have e_:=h7.ct l.prog w base (rO (k:=0) h7.F);have qP:=h3.ct l.prog w base (Gx (k:=0) h3.F B O);have oV:=h2.ct l.prog w base (Dc (k:=1) h2.F (qP.mono ⋯))
 have JN:=h1.ct l.prog w base (Uq (k:=2) h1.F B (oV.mono ⋯))
 have jJ:=h8.ct l.prog w base (Dd (k:=3) h8.F B (JN.mono ⋯))
 have oU:=h10.ct l.prog w base (C_ (k:=0) h10.F B);have gY:=h9.ct l.prog w base (xW (k:=1) h9.F B (oU.mono ⋯))
 have aeQ:=h6.ct l.prog w base (KQ (k:=4) h6.F B O (e_.mono ⋯) (jJ.mono ⋯) (cW.mono ⋯) (gY.mono ⋯))
 have lZ:=SN.alias (h6.ct l.prog w base (KQ (k:=4) h6.F B O (e_.mono ⋯) (jJ.mono ⋯) (cW.mono ⋯) (gY.mono ⋯))) zU
 have gw:=ji.ct jY.c l.prog w base (qI (k:=5) ji.F B O gA (dI.mono ⋯) (lZ.mono ⋯))
 have iM:=qe.ct jY.c l.prog w base (zp (k:=6) qe.F B gA (bz.mono ⋯) (gw.mono ⋯))
 have mj:=qb.ct jY.c l.prog w base (zm (k:=0) qb.F B gA);have jr:=mQ.ct jY.c l.prog w base (vH (k:=1) mQ.F gA (bz.mono ⋯))
 have j5:=oM.ct jY.c l.prog w base (yd (k:=0) oM.F B gA);exact XF (k:=7) F B gA (Hi.mono ⋯) (di.mono ⋯) (Hj.mono ⋯) (DW.mono ⋯) (sS.mono ⋯) (DX.mono ⋯) (iM.mono ⋯) (cg.mono ⋯) (mj.mono ⋯) (jr.mono ⋯) (j5.mono ⋯)
theorem walk{l:PySem.W.OpenLaw}{q:AC}{loose:List Str}{XP:(Str->Option AA)->Heap->Prop}{YP:World->Heap->Prop}{d:DefRec}{K:Params->Frag}(hn:l.most=some 63)(hdf:d.params.defaults=[])
  (hY:∀(w:World)(h:Heap),YP w h->(K w.params).In h)
  (F:∀(w:World)(mg:Str->Option AA)(fa:Addr)(h:Heap),(K w.params).In h->h.Ns mainGlobals mg->mg d.name=some (.ref fa) ->
   ∃fd:FuncData,(∀(s:AB)(u:AA),BindsTo s fd ⟨[u],[]⟩ [("_law_script",u)])/\∀base:Heap,(K w.params).In base->base.Ns mainGlobals mg->bF l.prog w (K w.params) mg base iy 8 fa fd ["_law_script"] (Ke (K w.params))) :
  PySem.W.WalkO q loose XP YP l.row.toRowW d [] (fun f vs=>PySem.call f vs):=
 _L.Td (n:=63) (k:=8) (x:="_law_script") (CX:=fun _=>iy) (sp:=fun w=>Ke (K w.params)) hn ⋯ hdf ⟨rfl,⋯,⋯,rfl⟩ hY F (fun _ _ a ns hl hO hS=>⟨a,ns,rfl,Vv.of hS hO,hl,fun _=>rfl⟩) fun _ _ _ _ _ z=>z
end _K
structure PySem.W.Fast:Prop where(tw1837455005699154691 tw12158627992112761535 tw6831048046916143696 tw5629100324548810633 tw15698759000034598677 tw17941434986104287449 tw16691824528843397432 tw4134345031964934850 tw1707904622516231717 tw11117390298520048368 tw16315221078209271076 tw18301366315590151705 tw12281951192400174103 tw6622569819057406757 tw18181100915474264564 tw532154084401834130 tw7780565145370040958 tw8747736027239282549 tw13256916158326874355 tw15326473293644786431 tw3482963155741134701 tw1742093534408634923 tw15082194933218268794 tw1488864049086952524 tw8721542779199247755 tw7611241786479748059 tw10939555379280515435 tw2902452853288348264 tw9001664652656535165 tw18049744738874357645 tw5202917879430125506 tw1266658140838545409 tw8652684694171872039 tw9606899226760968284 tw13867004989436686685 tw11472853938826086358 tw15107246775221577236 tw3406861640049820509 tw6695693089302258890 tw12507947623763970104 tw6620528181253491794 tw6262084079038699361 tw15823803832136796127 tw10328652941932085018 tw522592922928308958 tw13184248948733038832 tw11635538107223511864 tw5464415591536944574 tw11595470065436767505 tw17498701976003663487 tw16440409451435579949 tw13608214298562936489 tw10193018743310860989 tw12872822516555463009 tw15052777400022499541 tw15602141053142636632 tw15384497030147613021 tw10432176475075583055 tw2279800794496517823 tw4244889686024687330 tw15521676103653042602 tw9707465362517963170 tw12285499912865865786 tw1603016087992998360 tw18270551516596458862 tw12459260671729070193 tw7828953355704007831 tw18017690217381262328 tw16812330233263441522 tw16531743386511522859 tw6083908505855211750 tw1835643982612910366 tw7250610938574964975 tw5183130887801955471 tw10040617360720894166 tw15867220138967158416 tw3115204542502538327 tw7846697357263823080 tw16304322014325255422 tw4374588295618955348 tw14472386016442137748 tw13211701844547723085 tw3953304395621576950 tw4848155474958145379 tw4982415877860141549 tw17699780426071720474 tw13219610106270451020 tw11982097115435252333 tw651940774311265816 tw10191740693373138111 tw14654216768469353740 tw9654596701141578900 tw12773368531001087803 tw18429904575936333651 tw4482477733598803013 tw14121775415524095959 tw7796104291126567930 tw2461216157838193290 tw1906861126191039065 tw16836867783095881793 tw10211481339915120272 tw4971755294427596907 tw13865599172252020997 tw14519443990809495572 tw3518408976976949164 tw7878992873363453977 tw14547804126274397684 tw15577134225938685393 tw6992345467993643342 tw17033871328017724758 tw1426120486144253108 tw167297682389654079 tw10922601064066119063 tw13077319645715260094 tw5572349068815210369 tw14597874103734151691 tw12476104729823957631 tw185001303275725413 tw7723082699508291044 tw14950836228288611928 tw16428631388769949735 tw14870183082625816212 tw968138957430672516 tw16668220305596863611 tw816391802775200129 tw14614834527625779291 tw6176236858324036675 tw2662864856401880886 tw9584175749814891291 tw2440205968572158195 tw6514930773082338183 tw17444107142293192018 tw276749360240317278 tw14239296236232679189 tw16446000779600670494 tw2224344120002924235 tw16729298127249165230 tw17121978509806540184 tw1134826206999747165 tw16933376558320053952 tw6449799196990434610 tw11595395211892836533 tw15087971347647259708 tw3828019875024949420 tw3470998187794531292 tw1378607811625889225 tw1783024684002340714 tw14432518525312384662 tw15768099241836561895 tw436317863189743845 tw502951960336621601 tw7794224498015437211 tw5599088198824593601 tw6252474083763234424 tw17004410013351994993 tw12165623715747562508 tw6781107311538826030 tw12338920893782621093 tw7360641493183918619 tw4707661266653475893 tw8971450927443422141 tw15157248570890780914 tw10042521447819840208 tw935560090241153142 tw926293977281458568 tw3738570346864392744 tw721227179703919045 tw16472002863962088986 tw10419605492612666645 tw4136940511589022551 tw6648148034925681581 tw6893465293822652234 tw5631332736761736939 tw12915867325179877992 tw9572030275312468155 tw2744602681720192142 tw16600776948822101986 tw12081312244091860308 tw2414527049395470267 tw6258857078243592565 tw1052363545876899800 tw14735508592879746986 tw17310836924143677731 tw4858046046271809325 tw10250260487607127981 tw5360041317201349912 tw7034536724408467684 tw8324594159133504493 tw391587851297298042 tw11036564491698083819 tw16499663583980941953 tw3765226438058401942 tw5128444445289505380 tw5779007119549875344 tw18260594932834033008 tw5040665120173560717 tw12623753564521514414 tw9048695055562347842 tw11683050856994253873 tw7296352558299084639 tw16266034259013574669 tw12570560675093873423 tw10583441006359215214 tw15512553231802374382 tw8661356454775042652 tw9284417814243085060 tw13422222238443194141 tw3873121200545457653 tw9812492087649799053 tw14611272377748836743 tw3096272041590041500 tw15578637036605314523 tw15986176193409195180 tw8534151622894284043 tw6067482999227750748 tw14756770650175769307 tw6109142256523886088 tw9584796152547108523 tw9269356304281993750 tw6809972978274393982 tw14818856790291640476 tw3516278541510391488 tw7613937668903991672 tw14823132419044991605 tw3347296005876693792 tw16187283363341653956 tw16999016381686996182 tw15515273574207277085 tw14733149255024883713 tw2978726631147822221 tw722976032546926777 tw9453797483725815638 tw5972926120617249136 tw9766804637222641204 tw12093485271211870077 tw10615259989564423658 tw17744789120836289883 tw4719739047587892593 tw10385212274012010495 tw9472245197833488987 tw11003622758250221110 tw8448422204715611558 tw12980742937838426695 tw4981469758239920303 tw9981607682253004869 tw6419618627112336484 tw136206685052149494 tw15247109882681584910 tw17949735581794982778 tw12390514392504104293 tw17622249489517253873 tw14058524249248592333 tw15853527743014639108 tw1427161274151887476 tw10196453736222425788 tw14496100686279606408 tw7394758508717700301 tw9327587706392566145 tw17951458993126417834 tw601057421748315744 tw1008856798709458464 tw16321823023349600365 tw6138002542196003752 tw17802592161701060467 tw9112794531508369914 tw16958680550879192499 tw5414411729784709787 tw1164454297608979319 tw17356722994799058335 tw6182267816985620128 tw994869962569759777 tw17907718122356087758 tw2437758486979959371 tw284461270049423430 tw866607058773414340 tw4371545639025764445 tw7650112818558025334 tw6407446679976527853 tw16181983570410006246 tw3220008507511219325 tw15163737050090628292 tw10150918656959675670 tw10464621895739009176 tw541529982473917546 tw4399507893694366723 tw17868374346787613440 tw17904960428978600813 tw2623489026527539740 tw17607546489894967566 tw13176895639238696826 tw15212219213419229456 tw15752124201732932705 tw18432572969081672943 tw6971470009903822278 tw14307947770251576387 tw1364843048951301680 tw10703627638875146471 tw9429109918535440003 tw12125558458756640788 tw9556881366769985526 tw16937382226932086357 tw861899306758505055 tw1369756658524245363 tw11936982378978383727 tw6236486887031331172 tw8892459578998517043 tw4516884449187182618 tw5033103871191554121 tw3395389179894529414 tw14483396671830841973 tw5133201245094761677 tw10404701729942385196 tw1633189020848665308 tw2455211592308392505 tw14936354530623928383 tw1020317846814640270 tw5408425355516990239 tw693097474394008687 tw10305931403679008269 tw14735760615324042604 tw9392842882822800237 tw3141406519300005188 tw6020444307279710963 tw2751213892795068017 tw10165822183577568801 tw4963449616688136583 tw8075159102775917147 tw3668253186125666543 tw13086074569214467043 tw699966860479846645 tw7669701273700821574 tw17957559515472921678 tw6974623770461762143 tw8626364702043000072 tw4420693276476666756 tw1785169714495229644 tw18151021042094684152 tw11943336391128301516 tw15574348484165089426 tw6843272732490595006 tw7730646457829985112 tw13542226725479083731 tw16330814872670044645 tw15625481840600617980 tw16642560983338645377 tw15234259624690970039 tw491114233684988525 tw3715689894596393488 tw3288515967145805752 tw15781416536503293440 tw4291673938436428185 tw10405851287116969209 tw15871886350019749275 tw17392521569239537533 tw9003994742682682216 tw4848315001271365610 tw14477486311026773336 tw2697981517170066892 tw13388822393610629269 tw17667836252985732094 tw1848552208357533967 tw7023824303646737770 tw4859745430263651144 tw525948536094675341 tw12211734239608840317 tw17708929550307922836 tw6323396382008612787 tw4729576251078115521 tw11992382759061469327 tw12995723966200868854 tw12681939247181262356 tw15321388216257104928 tw3344235359549301381 tw17574731621854502268 tw4622974881949961236 tw16694760727408943526 tw9912049545101152530 tw14480122165625631445 tw15847126806102543515 tw605199827295317264 tw7655562933607827111 tw4001562433389767790 tw15614947704873266963 tw16497091309510589151 tw4576454915985523713:True)
open PySem PySem.W PyProof.Rows
local macro_rules | `(tactic| walk_at "cle")=>`(tactic| (refine' _L.ZD.mk' ?a ?b ?c ?d ?e ?f ?g ?h ?i ?j ?k ?l ?m; (case a=>k_is); (case b=>k_is); (case c=>k_is); (case d=>k_is); (case e=>k_is); (case f=>k_is); (case g=>k_is); (case h=>k_is); (case i=>k_is); (case j=>k_is); (case k=>k_is); (case l=>k_is); (case m=>k_is)))
local macro_rules | `(tactic| walk_at "fc")=>`(tactic| (refine' _L.Ot.mk' ?a ?b ?c ?d ?e; (case a=>k_is); (case b=>k_is); (case c=>k_is); (case d=>k_is); (case e=>k_is)))
local macro_rules | `(tactic| walk_at "fd")=>`(tactic| (refine' _L.Wz.mk ?a ?b ?c ?d ?e; (case a=>k_is); (case b=>k_is); (case c=>k_is); (case d=>k_is); (case e=>k_is)))
local macro_rules | `(tactic| walk_at "fn")=>`(tactic| (refine' _L.qm.mk ?a ?b ?c ?d; (case a=>k_is); (case b=>k_is); (case c=>k_is); (case d=>k_is)))
local macro_rules | `(tactic| walk_at "na")=>`(tactic| (unfold _L.cJ; k_is))
local macro_rules | `(tactic| walk_at "nb")=>`(tactic| (unfold _L.Nb; k_is))
local macro_rules | `(tactic| walk_at "ni")=>`(tactic| (refine' _L.Ni.mk ?a; (case a=>k_is)))
local macro_rules | `(tactic| walk_at "ns")=>`(tactic| (refine' _L.Eb.mk ?a; (case a=>k_is)))
local macro_rules | `(tactic| walk_at "nt")=>`(tactic| (refine' _L.NT.mk ?a ?b; (case a=>k_is); (case b=>k_is)))
set_option maxRecDepth 100000 in
set_option maxHeartbeats 0 in
theorem PySem.Challenge.cw_waithands_k40_great_yards_holds : PySem.Challenge.rw_waithands_k40_great_yards.Holds := by
 w_on; o_law; k_head; (case hw=>w_witness2)
 k_fill
 refine _K.walk (l:=PySem.Challenge.rw_waithands_k40_great_yards) rfl rfl (fun w h Y=>PySem.W.kIn_of Y) ?F
 case F=>
  intro w mg fa h KX G hmg;refine' _K.all_mk KX G hmg ?e0 ?e1 ?e2 ?e3 ?e4 ?e5 ?e6 ?e7 ?e8 ?e9 ?e10 ?e11 ?Wl ?Ys ?e14 ?Zt ?e16 ?e17 ?e18 ?e19 ?e20 ?e21 ?e22 ?e23 ?e24 ?e25 ?e26 ?e27 ?e28 ?e29 ?e30 ?e31 ?e32 ?e33 ?e34 ?e35 ?e36 ?e37 ?e38 ?e39 ?e40 ?e41 ?e42 ?e43 ?e44 ?e45 ?e46 ?e47 ?e48 ?e49 ?e50 ?e51 ?e52 ?e53 ?e54 ?e55 ?e56 ?e57 ?e58 ?e59 ?e60 ?e61 ?e62 ?e63 ?e64 ?e65 ?e66 ?e67 ?e68 ?e69 ?e70 ?e71 ?e72 ?e73
  case e0 | e1 | e2 | e3 | e4 | e5=>walk_at "fn"
  case e6=>walk_at "fd"
  case e7 | e8 | e9 | e10 | e11 | Wl | Ys | e14 | Zt | e16 | e17 | e18 | e19 | e20 | e21 | e22 | e23 | e24 | e25 | e26 | e27=>walk_at "fn"
  case e28=>walk_at "cle"
  case e29 | e30 | e31 | e32 | e33 | e34 | e35=>walk_at "na"
  case e36 | e37 | e38 | e39 | e40 | e41 | e42 | e43=>walk_at "fc"
  case e44 | e45=>k_is
  case e46=>k_exc
  case e47=>kts_exm
  case e48 | e49 | e50 | e51 | e52 | e53 | e54 | e55 | e56 | e57 | e58 | e59 | e60 | e61 | e62 | e63 | e64=>walk_at "nb"
  case e65=>walk_at "nt"
  case e66 | e67 | e68 | e69=>walk_at "ns"
  case e70 | e71 | e72 | e73=>walk_at "ni"
