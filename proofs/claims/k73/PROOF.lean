import PyProof.Rows.All
import Wide.All
import OpenK.AllK
import Wide.FinOn
import PySem.Challenge.RW_haulbell_k73_whole_any_order
import Lean
import PyProof.EqAt
import PyProof.EqKinds
import PyProof.TupleCall
import PyProof.EnumStmt
import PyProof.NeKinds
import PyProof.ExcAttrAll.ValueError
import PyProof.ExcInit
import PyProof.StationsW
import PyProof.NsDelKeeps
import PyProof.InstStoreFacts
import PyProof.ZipIter
import PyProof.IsiBase
import PyProof.AttrMiss
import KE.KDictOf
import KE.KDictList
import PyProof.InstEq
import PyProof.Rows.Range3
import PyProof.StrOps2
import KE.LcSums
open PySem.W renaming behindTheImports→ac
open PySem renaming wpAny_bind→ad,wpAny_pure→am,wpAny_field→ap,wpAny_holding→bd,wpAny_truthy_bool→bi,starEach→bm,sizeLine→bn,wpAny_Call_Name_kw→bv
open List renaming length_map→ce,length_append→ci,mem_of_getElem?→cr,length_take→db,mem_cons_of_mem→dL,map_append→f8,length_singleton→ge,size_toArray→ii,mem_append_right→im,getElem?_map→io,length_drop→jp,append_assoc→le,getElem?_eq_getElem→li,mem_cons_self→mo,mem_cons→nb
open Bool renaming and_eq_true→nl
open Option renaming map_eq_some_iff→nw
open Nat renaming lt_of_lt_of_le→ol,le_of_ble_eq_true→pc,ne_of_lt→pi,le_refl→re
open Int renaming toNat_natCast→sn,eq_ofNat_of_zero_le→sw
open List renaming replicate→sK,getElem?_eq_some_iff→tz
open PySem.Heap renaming get?_push_of_some→ul,lt_size→ut,get?_push_size→v4
set_option linter.all false
set_option maxRecDepth 100000
set_option Elab.async false
set_option compiler.extract_closed false
theorem My.kleA {a b k:Nat}(h:a<=k)(e:Nat.ble (b+1) a=true):b<=k-1:=Nat.le_sub_one_of_lt (ol (pc e) h)
theorem My.kleB {a b k:Nat}(h:a<=k)(e:Nat.ble b a=true):b<=k:=Nat.le_trans (pc e) h
set_option hygiene false
local macro_rules| `(tactic|sleep $n:num)=>`(tactic|((conv at h=>lhs;whnf);iterate $n (split at h;rotate_left;cases h)))
set_option hygiene true
local macro_rules|`(command|abbrev $i:declId $s:optDeclSig $v:declVal)=>`(command|noncomputable def $i:declId $s:optDeclSig $v:declVal)
local macro_rules|`(command|def $i:declId $b:bracketedBinder* :$t $v:declVal)=>`(command|theorem $i:declId $b:bracketedBinder* :$t $v:declVal)
local macro_rules|`(nofun)=>`(by first|exact My.kleA (by assumption) (by rfl)|exact My.kleB (by assumption) (by rfl)|lia|omega)
local macro_rules|`(tactic|omega)=>`(tactic|lia)
noncomputable abbrev My.pr:PySem.Program:=PySem.Challenge.rw_haulbell_k73_whole_any_order.row.prog
open PySem PySem.W in
set_option maxHeartbeats 0 in
def My.IP:PySem.Challenge.rw_haulbell_k73_whole_any_order.wellSaid=true:=by
  rewrite [Fast.te9446332074065402090]
  kernel_rfl
namespace L2
open PySem PySem.Spec
abbrev inClass (s:Stmt)(j:Nat):Stmt:=match s with
  | .ClassDef _ _ _ body _ _ _ _ _ _ _=>body.getD j (.Pass ⟨0,0,0,0⟩)
  |_=>.Pass ⟨0,0,0,0⟩
abbrev vO (s:Stmt):Arguments:=match s with
  | .FunctionDef _ a _ _ _ _ _ _ _ _=>a
  |_=>{ posonlyargs:=[],args:=[],vararg:=none,kwonlyargs:=[],kw_defaults:=[],kwarg:=none,defaults:=[] }
abbrev vD (s:Stmt):List Stmt:=match s with
  | .FunctionDef _ _ b _ _ _ _ _ _ _=>b
  |_=>[]
abbrev qk (s:Stmt):Scope:=match s with
  | .FunctionDef _ _ _ _ _ _ sc _ _ _=>sc
  |_=>{ kind:=.function,names:=[],isGenerator:=false,isCoroutine:=false }
end L2
namespace My
open PySem L2 PySem.W
abbrev top (i:Nat):Stmt:=PySem.Challenge.pw_haulbell_k73_whole_any_order.main.body.getD i (.Pass ⟨0,0,0,0⟩)
abbrev tq (i j:Nat):Stmt:=inClass (top i) j
/-- the top's run on a tree -/
abbrev mi (tb:String->Option Builtin)(p:Program)(w:World)(m:Nat)(ann:Option Value):Nat->SharedT->Thread->Option SharedT
  |0,_,_=>none
  |n+1,s,t=>match through t with
    |true=>some s
    |false=>match stepOk m ann t with
      |false=>none
      |true=>match stepT (denote tb) p w s t with
        |some r=>mi tb p w m ann n r.1 r.2
        |none=>none
def vS {tb:String->Option Builtin}{p:Program}{w:World}{m:Nat}{ann:Option Value}:∀ {n:Nat}{s s':SharedT}{t:Thread},mi tb p w m ann n s t=some s'->topRun tb p w m ann n s.abs t=some s'.abs
  |0,_,_,_,h=>by cases h
  |n+1,s,s',t,h=>by
    unfold mi at h;unfold topRun;cases a:through t
    · rw[a] at h;dsimp only at h⊢
      cases b:stepOk m ann t
      · rw[b] at h;cases h
      · rw[b] at h;dsimp only at h⊢
        cases c:stepT (denote tb) p w s t with
        |none=>rw[c] at h;cases h
        |some r=>rw[c] at h;rw[stepT_spec c];exact vS h
    · rw[a] at h;cases h;rfl
abbrev GG:Nat->BT->List Obj->BT
  |_,t,[]=>t
  |n,t,o::os=>GG (n+1) (t.ins n o) os
abbrev zP (P:Params):BT:=GG 0 .nil (boot_heap P).objs.toList
abbrev KQ (P:Params)(os:OsState):SharedT:=⟨zP P,11,(boot_heap P).life,Array.mk [],boot_drawn,boot_toks,os⟩
def xq {p q:Program}{loose:List Str}{Xt:Shared->Bool}{α:Type}{Yf:Shared->α}{Ya:World->α}{N:Nat}(e:opening p=plainProg p.main.scope.names)(hN:Nat.ble 600 N=true)(f:∀ s,fenceModules? p s=some s)
    (h0:∀ P,absHeap (zP P) 11 (boot_heap P).life=boot_heap P) (h1:∀ P,((boot_heap P).isNs mainGlobals,(boot_heap P).objs.size,(boot_heap P).nsMap mainGlobals "__annotations__")=(true,11,some (.ref 6)))
    (run:∀ (w:World) (os:OsState),(mi treeTable p w 11 (some (.ref 6)) N (KQ w.params os) (topStub p)).map (λs=>(staticsOk (importedModules p.main.body) (boot_heap w.params) s.abs.heap&&namesBound p s.abs.heap&&gensDone s.abs&&laidKept (boot_heap w.params) s.abs.heap,
      openSeen q loose (importedModules p.main.body) Xt true s.abs,Yf s.abs))=some (true,openGood q loose,Ya w)):LeftO p q loose Xt Yf Ya N:=λw=>by
  obtain ⟨⟨hp,gs,d,k,os⟩,e1,e2⟩:=nw.mp (boot_open e hN f w);obtain ⟨rfl,rfl,rfl,rfl⟩:hp=boot_heap w.params/\gs=Array.mk []/\d=boot_drawn/\k=boot_toks:=by simpa using e2
  obtain ⟨z1,z2,z3⟩:_/\_/\_:=by simpa only [Prod.mk.injEq] using h1 w.params
  obtain ⟨s,r,l⟩:=nw.mp (run w os);obtain ⟨l1,l2,l3⟩:_/\_/\_:=by simpa only [Prod.mk.injEq] using l
  have r1:=vS r;have a0:(KQ w.params os).abs=⟨boot_heap w.params,Array.mk [],boot_drawn,boot_toks,os⟩:=by
    show (⟨absHeap (zP w.params) 11 (boot_heap w.params).life,Array.mk [],boot_drawn,boot_toks,os⟩:Shared)=_;rw[h0]
  rw[a0] at r1;unfold openEnds;rw[e1];have t:topFrom treeTable p w N ⟨boot_heap w.params,Array.mk [],boot_drawn,boot_toks,os⟩=some s.abs:=by
    unfold topFrom;dsimp only;rw[z1,z2,z3,r1];show (match staticsOk (importedModules p.main.body) (boot_heap w.params) s.abs.heap&&namesBound p s.abs.heap&&gensDone s.abs&&laidKept (boot_heap w.params) s.abs.heap with|true=>some s.abs|false=>none)=some s.abs;rw[l1]
  show (topFrom treeTable p w N _).map _=_;rw[t];exact congrArg some (Prod.ext l2 l3)
abbrev KC:List Addr:=2::3::30::31::47::48::50::51::66::67::69::70::85::86::88::89::104::105::107::108::123::124::126::127::142::143::145::146::161::162::164::165::180::181::183::184::199::200::202::203::218::219::221::222::230::231::237::238::239::245::246::252::253::259::260::268::274::275::281::282::288::289::293::294::300::301::303::304::314::315::321::322::331::332::349::350::356::357::363::364::366::367::382::383::389::390::396::397::399::400::415::416::422::423::429::430::432::433::448::449::455::456::462::463::465::466::481::482::488::489::495::496::498::499::507::508::514::515::521::522::530::536::537::543::544::550::551::557::558::564::565::578::579::592::593::597::598::604::605::607::608::613::619::620::626::627::633::634::647::648::654::655::661::662::675::676::682::683::689::690::696::697::710::711::713::714::724::725::731::732::738::739::743::744::750::751::757::758::764::765::776::777::783::784::790::791::797::798::804::805::818::819::823::824::830::831::837::838::840::841::851::852::858::859::867::873::874::880::881::887::888::890::891::899::900::906::907::913::914::920::921::927::928::934::935::948::949::955::956::958::959::974::975::981::982::984::985::1000::1001::1007::1008::1010::1011::1026::1027::1033::1034::1036::1037::1052::1053::1059::1060::1062::1063::1078::1079::1085::1086::1088::1089::1097::1098::1104::1105::1111::1112::1118::1119::1125::1126::1132::1133::1139::1140::1146::1147::1153::1154::1160::1161::1167::1168::1174::1175::1181::1182::1186::1187::1191::1192::1198::1199::1203::1204::1208::1209::1215::1216::1222::1223::1229::1230::1234::1235::1241::1242::1248::1249::1253::1254::[]
abbrev Na:List Addr:=48::67::86::105::124::143::162::181::200::219::231::238::246::253::260::275::282::289::294::301::315::322::350::357::364::383::390::397::416::423::430::449::456::463::482::489::496::508::515::522::537::544::551::558::565::579::593::598::605::620::627::634::648::655::662::676::683::690::697::711::725::732::739::744::751::758::765::777::784::791::798::805::819::824::831::838::852::859::874::881::888::900::907::914::921::928::935::949::956::975::982::1001::1008::1027::1034::1053::1060::1079::1086::1098::1105::1112::1119::1126::1133::1140::1147::1154::1161::1168::1175::1182::1187::1192::1199::1204::1209::1216::1223::1230::1235::1242::1249::1254::[]
abbrev MU:List Addr:=[31,51,70,89,108,127,146,165,184,203,222,304,332,367,400,433,466,499,608,714,841,891,959,985,1011,1037,1063,1089]
abbrev runK (tb:String->Option Builtin)(p:Program)(w:World)(m:Nat)(ann:Option Value):Nat->SharedT->Thread->Option (SharedT×Thread)
  |0,s,t=>some (s,t)
  |n+1,s,t=>match through t with
    |true=>none
    |false=>match stepOk m ann t with
      |false=>none
      |true=>match stepT (denote tb) p w s t with
        |some r=>runK tb p w m ann n r.1 r.2
        |none=>none
def cD {tb:String->Option Builtin}{p:Program}{w:World}{m:Nat}{ann:Option Value}{k:Nat}:∀ {n:Nat}{s:SharedT}{t:Thread}{r:SharedT×Thread},runK tb p w m ann n s t=some r->mi tb p w m ann (n+k) s t=mi tb p w m ann k r.1 r.2
  |0,s,t,r,h=>by
    rw[Nat.zero_add];cases h
    rfl
  |n+1,s,t,r,h=>by
    rw[Nat.succ_add];unfold runK at h;conv=>lhs;unfold mi
    cases a:through t
    · rw[a] at h;dsimp only at h⊢
      cases b:stepOk m ann t
      · rw[b] at h;cases h
      · rw[b] at h;dsimp only at h⊢
        cases c:stepT (denote tb) p w s t with
        |none=>rw[c] at h;cases h
        |some r=>rw[c] at h;exact cD h
    · rw[a] at h;cases h
abbrev kT (x y:Str)(s:Stmt):Obj:=⟨.none,none,.func { name:=x,qualname:=y,params:=vO s,body:=.stmts (vD s),scope:=qk s,globals:=builtinsNs,closure:=[],defaults:=.none,kwdefaults:=.none },#[]⟩
abbrev bo (P:Params)(i:Nat):Obj:=(boot_heap P).objs.toList.getD i ⟨.none,none,.plain,#[]⟩
abbrev jh (p:Program):Env:={ scope:=p.main.scope,locals:=mainNs,globals:=mainNs,cells:=[],code:=.ref 13,frame:=some 14 }
abbrev Ml:Frame:=.ret (λx=>Sem.bind (match x with| .ok f=>Sem.pure f| .error e=>Sem.raise e) (λ_=>ret .none)) none false [] (.builtin "claim.caller" {}) default []
abbrev Cn (p:Program)(X:List Stmt):Sem Fin:=Sem.bind (Sem.onRaise (execs X (jh p)) (leaving (jh p))) (λa=>Sem.pure (Fin.done a))
abbrev jf (p:Program)(X:List Stmt)(q:Pos):Thread:=⟨Cn p X,.body (ac p) (jh p),q,[Ml]⟩
def Af {tb:String->Option Builtin}{p:Program}(h:blockStart (ac p) (jh p)=Sem.pure ()):denote tb (.body (ac p) (jh p))=Cn p (ac p):=by
  show Sem.bind (blockStart (ac p) (jh p)) (λ_=>Cn p (ac p))=_;rw[h]
  rfl
abbrev o0:Obj:=⟨.type "tuple",none,.seq #[] 0,#[]⟩
abbrev oN:Obj:=⟨.none,none,.fields #[],#[]⟩
abbrev oL:List Str->Nat->List Value
  | [],_=>[]
  |x::r,t=>.str x t::oL r (t+1)
abbrev oS (l:List Str)(t:Nat):Obj:=⟨.type "tuple",none,.seq (Array.mk (oL l t)) 0,#[]⟩
abbrev oI (l c a:Nat):Obj:=⟨.none,none,.fields #[.int l 0,.int c 0,.ref a],#[]⟩
abbrev oK (x:Str)(t l r:Nat):Obj:=⟨.type "code",none,.fields #[.str x t,.str x (t+1),.str "/claim/cut.py" (t+2),.int l 0,.int 0 0,.int 0 0,.int 0 0,.int 0 0,.ref r,.bool false,.int 181 0,.ref (r+1),.none,.none,.none,.none,.int (t+3:Nat) 0,.int l 0,.str "/claim/cut.py" (t+4)],#[]⟩
abbrev oC (x y:Str)(t l n r u:Nat):Obj:=⟨.type "code",none,.fields #[.str x t,.str y (t+1),.str "/claim/cut.py" (t+2),.int l 0,.int n 0,.int 0 0,.int 0 0,.int 3 0,.ref r,.bool true,.int 181 0,.ref (r+1),.none,.ref (r+2),.ref (r+3),.ref (r+4),.int u 0,.int l 0,.str "/claim/cut.py" (u+1)],#[]⟩
abbrev oF (x y:Str)(s:Stmt)(m:Str)(t c:Nat)(d:Value:=.none):Obj:=⟨.type "function",none,.func (fnOf x y (vO s) (vD s) (qk s) d .none .none (.str m t) none (.ref c) .none),#[]⟩
abbrev oR (a b:Nat)(m:Str)(t:Nat):Obj:=⟨.type "frame",none,.plain,#[some (.ref a),some (.ref 3),some (.ref b),none,some (.str m t),none,some (.ref 0)]⟩
abbrev oX (x:Str)(b m:List Value)(n:Addr)(s:List Value)(r t u:Nat)(w:String):Obj:=⟨.type "type",none,.cls ⟨x,b,m,n,x,true,[],s,false,none,false⟩,#[some (.ref r),none,some (.str x t),some (.str x u),some (.builtin w),some (.bool true)]⟩
abbrev oU (a:Addr):Obj:=⟨.type "super",none,.fields #[.ref a,.ref a,.ref a],#[]⟩
abbrev oJ (a:Addr):Obj:=⟨.type "builtin_function_or_method",none,.fields #[.builtin "object.__init_subclass__",.ref a],#[]⟩
abbrev oP:Obj:=⟨.type "builtin_function_or_method",none,.fields #[.builtin "type.__prepare__",.type "type"],#[]⟩
abbrev oQ (a:Addr):Obj:=⟨.type "tuple",none,.seq #[.ref a] 0,#[]⟩
abbrev fG (x y:Str)(s:Stmt)(m:Str)(mt:Nat)(l:List Str)(t ln n a:Nat)(r:List Obj):List Obj:=o0::oN::oS l (t+3)::o0::kT x y s::oC x y t ln n a (t+3+l.length)::oF x y s m mt (a+5)::r
abbrev oW:List (Nat×Obj)->List Obj->List Obj
  | [],l=>l
  |x::r,l=>(oW r l).set x.1 x.2
abbrev eV (x:Str)(t:Tok)(v:Value)(P:Params):DictEntry:=⟨PyData.keyHash P x,.str x t,v⟩
abbrev eM (t:Nat)(m:Str)(u:Nat):Params->DictEntry:=eV "__module__" t (.str m u)
abbrev eQ (t:Nat)(m:Str)(u:Nat):Params->DictEntry:=eV "__qualname__" t (.str m u)
abbrev eF (t l u:Nat):Params->DictEntry:=eV "__firstlineno__" t (.int l u)
abbrev eS (t a:Nat):Params->DictEntry:=eV "__static_attributes__" t (.ref a)
abbrev eN (t:Nat):Params->DictEntry:=eV "__doc__" t .none
abbrev eR (x:Str)(t a:Nat):Params->DictEntry:=eV x t (.ref a)
abbrev oD (P:Params)(es:List (Params->DictEntry))(n:Nat):Obj:=⟨.type "dict",none,.dict (Array.mk (es.map λf=>f P)) n,#[]⟩
abbrev MX (P:Params):List Obj:=
bo P 0::
bo P 1::
bo P 2::
bo P 3::
bo P 4::
bo P 5::
bo P 6::
bo P 7::
bo P 8::
bo P 9::
bo P 10::
o0::
oN::
oK "<module>" 182 1 11::
oR 13 3 "__main__" 164::[]
abbrev MH (x y:Str)(t l n r:Nat):Obj:=⟨.type "code",none,.fields #[.str x t,.str y (t+1),.str "/claim/cut.py" (t+2),.int l 0,.int n 0,.int 0 0,.int 0 0,.int 3 0,.ref r,.bool true,.int 181 0,.ref (r+1),.none,.none,.none,.ref (r+2),.int (t+3:Nat) 0,.int l 0,.str "/claim/cut.py" (t+4)],#[]⟩
abbrev oG (x b:String)(v:Value)(a t:Nat):Obj:=⟨.type "getset_descriptor",none,.fields #[.str (Str.ofString x) t,.ref a,.builtin b,v],#[]⟩
@[reducible]def Mt:Type:=Str×Str×List Str×Nat×Nat×List (Obj×Nat)
abbrev ED (a t:Nat)(s:Stmt)(m:Str×Nat)(x y:Str)(l:List Str)(ln n:Nat)(d:Value):List Obj:=match l with
  | []=>o0::oN::kT x y s::MH x y t ln n a::oF x y s m.1 m.2 (a+3) d::[]
  |_=>o0::oN::oS l (t+3)::o0::kT x y s::oC x y t ln n a (t+3+l.length)::oF x y s m.1 m.2 (a+5) d::[]
abbrev MA (a t:Nat)(s:Stmt)(m:Str×Nat)(q:Mt):List Obj:=match q.2.2.2.2.2 with
  | []=>ED a t s m q.1 q.2.1 q.2.2.1 q.2.2.2.1 q.2.2.2.2.1 .none
  |d::_=>d.1::ED (a+1) (t+d.2) s m q.1 q.2.1 q.2.2.1 q.2.2.2.1 q.2.2.2.2.1 (.ref a)
abbrev EM (q:Mt)(a:Nat):Nat:=match q.2.2.1 with
  | []=>a+5+q.2.2.2.2.2.length
  |_=>a+7+q.2.2.2.2.2.length
abbrev IU (q:Mt)(t:Nat):Nat:=match q.2.2.2.2.2 with
  | []=>t+6+q.2.2.1.length
  |d::_=>t+d.2+6+q.2.2.1.length
abbrev Mu (i:Nat)(m:Str×Nat):Nat->List Mt->Nat->Nat->(List Obj->Nat->Nat->List Obj)
  |_,[],_,_=>λr _ _=>r
  |j,q::l,a,t=>λr x y=>MA a t (inClass (top i) j) m q++Mu i m (j+1) l (EM q a) (IU q t) r x y
abbrev Mr:List Mt->Nat->Nat
  | [],a=>a
  |q::l,a=>Mr l (EM q a)
abbrev Mx:List Mt->Nat->Nat
  | [],a=>a
  |q::l,a=>Mx l (IU q a)
abbrev Mq:List Mt->Nat->Nat->List (Params->DictEntry)->List (Params->DictEntry)
  | [],_,_,r=>r
  |q::l,a,t,r=>eR q.1 (IU q t-1) (EM q a-1)::Mq l (EM q a) (IU q t) r
abbrev Mo:List Mt->Nat->List Value
  | [],_=>[]
  |q::l,a=>.int q.2.2.2.1 0::.int 4 0::.ref (EM q a-2)::Mo l (EM q a)
@[reducible]def It:Type:=(Params->List Obj)×List (Params->DictEntry)×List Value
abbrev iF (a t i:Nat)(m:Str×Nat)(x:Str)(l:List Str)(ln n:Nat)(d:List (Obj×Nat):=[]):It:=(λ_=>MA a t (top i) m (x,x,l,ln,n,d),eR x (IU (x,x,l,ln,n,d) t-1) (EM (x,x,l,ln,n,d) a-1)::[],.int ln 0::.int 0 0::.ref (EM (x,x,l,ln,n,d) a-2)::[])
abbrev iR (o:Params->List Obj):It:=(o,[],[])
abbrev iE (x:Str)(t:Nat)(v:Value):It:=(λ_=>[],[eV x t v],[])
abbrev iC (a T i:Nat)(m:Str×Nat)(x:Str)(ln:Nat)(ms:List Mt)(st:List Str)(sub:List Value:=[]) (br:Nat:=0) (mro:List Value:=[]) (w:String:=""):It:=
  let b:=Mr ms (a+7)
  let s:=Mx ms (T+12)
  let e:=s+st.length
  let h (z:List (Params->DictEntry)):=eF (T+11) ln (T+10)::Mq ms (a+7) (T+12) (eS e b::z)
  let o (y:List (Params->DictEntry)) (z k:Obj) (n:Nat) (r:List Obj) (P:Params):List Obj:=z::oP::oD P (eM (T+7) m.1 m.2::eQ (T+9) x (T+8)::h []) (4+ms.length)::o0::⟨.none,none,.fields (Array.mk (Mo ms (a+7))),#[]⟩::oK x (T+2) ln (a+3)::oR (a+5) (a+2) m.1 m.2::Mu i m 0 ms (a+7) (T+12) ((match st with| []=>o0|_=>oS st s)::oD P (eM (T+7) m.1 m.2::h y) n::k::r) 0 0
  match br with
  |0=>(o [eR "__dict__" (e+2) (b+3),eR "__weakref__" (e+4) (b+4),eN (e+5)] o0 ⟨.type "type",none,.cls ⟨x,[.type "object"],[.ref (b+2),.type "object"],b+1,x,true,[],sub,false,none,false⟩,#[none,none,some (.str x T),some (.str x (T+8)),some (.builtin "object.__new__"),some (.bool true)]⟩ 4 [oG "__dict__" "function.__dict__" (.builtin "function.__dict__#set") (b+2) (e+1),oG "__weakref__" "ExceptionGroup.__weakref__" .none (b+2) (e+3),oU (b+2),oJ (b+2)],eR x (e+7) (b+2)::[],.int ln 0::.int 0 0::.ref (a+5)::[])
  |_=>(o [eN (e+1)] (oQ br) (oX x [.ref br] (.ref (b+2)::.ref br::mro) (b+1) sub a T (T+8) w) 2 [oU (b+2),oJ (b+2)],eR x (e+3) (b+2)::[],.int ln 0::.int 0 0::.ref (a+5)::[])
abbrev Ig (P:Params)(nm:Str)(nt n:Nat)(l:List It):List Obj:=bo P 0::bo P 1::bo P 2::oD P (eV "__name__" 165 (.str nm nt)::eN 166::eV "__package__" 167 .none::eV "__loader__" 168 (.builtin "__main__.__loader__#opaque")::eV "__spec__" 169 .none::eR "__annotations__" 170 6::eR "__builtins__" 171 4::eV "__file__" 173 (.str "/claim/cut.py" 172)::eV "__cached__" 174 .none::l.flatMap (·.2.1)) n::bo P 4::bo P 5::bo P 6::bo P 7::bo P 8::bo P 9::bo P 10::o0::⟨.none,none,.fields (Array.mk (l.flatMap (·.2.2))),#[]⟩::oK "<module>" 182 1 11::oR 13 3 "__main__" 164::l.flatMap (·.1 P)
abbrev Nc:Str×Nat:=("__main__",164)
abbrev Bu:Str×Nat:=("haulbell.errors",194)
abbrev Mw:Str×Nat:=("haulbell.wholes",472)
abbrev KR:Str×Nat:=("haulbell.boxes",490)
abbrev EW:Str×Nat:=("haulbell.deeds",595)
abbrev Kq:Str×Nat:=("haulbell.machine",845)
abbrev Ks:Str×Nat:=("haulbell.store",989)
abbrev Mp:Str×Nat:=("haulbell.stretches",1127)
abbrev Kz:Str×Nat:=("haulbell.parts",1149)
abbrev MD:Str×Nat:=("haulbell.crew",1188)
abbrev GQ:Str×Nat:=("haulbell.hops",1306)
abbrev kb:Str×Nat:=("haulbell.longs",1368)
abbrev cp:Str×Nat:=("law_haulbell_k73_whole_any_order",1622)
abbrev Bt (a T i:Nat)(m:Str×Nat)(x:Str)(ln:Nat)(ms:List Mt)(st:List Str)(sub:List Value:=[]):It:=iC a T i m x ln ms st sub 31 [.type "ValueError",.type "Exception",.type "BaseException",.type "object"] "ValueError.__new__"
abbrev yc (a T i:Nat)(m:Str×Nat)(x:Str)(ln:Nat)(ms:List Mt)(st:List Str)(sub:List Value:=[]):It:=iC a T i m x ln ms st sub 332 [.type "object"] "object.__new__"
abbrev AW:List It:=
iF 15 187 0 Nc "_wall" ["k"] 1 1::
iE "HaulError" 213 (.ref 31)::
iR (λP=>[⟨.type "tuple",none,.seq #[.type "ValueError"] 0,#[]⟩,oP,oD P [eM 203 "haulbell.errors" 194,eQ 205 "HaulError" 204,eF 207 5 206,eS 208 29] 4,o0,oN,oK "HaulError" 198 5 25,oR 27 24 "haulbell.errors" 194,o0,oD P [eM 203 "haulbell.errors" 194,eF 207 5 206,eS 208 29,eR "__weakref__" 210 32,eN 211] 3,oX "HaulError" [.type "ValueError"] [.ref 31,.type "ValueError",.type "Exception",.type "BaseException",.type "object"] 30 [.ref 51,.ref 70,.ref 89,.ref 108,.ref 127,.ref 146,.ref 165,.ref 184,.ref 203,.ref 222] 22 196 204 "ValueError.__new__",⟨.type "getset_descriptor",none,.fields #[.str "__weakref__" 209,.ref 31,.builtin "ExceptionGroup.__weakref__",.none],#[]⟩,oU 31,oJ 31])::
Bt 35 214 3 Bu "NoStore" 7 [("__init__","NoStore.__init__",["self","at"],9,2,[])] ["at"]::
Bt 54 239 4 Bu "NoLeave" 12 [("__init__","NoLeave.__init__",["self","low","behind","word"],14,4,[])] ["behind","low","word"]::
Bt 73 268 5 Bu "Stop" 19 [("__init__","Stop.__init__",["self","deed","cell"],21,3,[])] ["cell","deed"]::
Bt 92 295 6 Bu "NoFit" 25 [("__init__","NoFit.__init__",["self","box","number"],27,3,[])] ["box","number"]::
Bt 111 322 7 Bu "NoBox" 31 [("__init__","NoBox.__init__",["self","box"],33,2,[])] ["box"]::
Bt 130 347 8 Bu "NoDeed" 36 [("__init__","NoDeed.__init__",["self","word"],38,2,[])] ["word"]::
Bt 149 372 9 Bu "NoRows" 41 [("__init__","NoRows.__init__",["self","at"],43,2,[])] ["at"]::
Bt 168 397 10 Bu "NoPlace" 46 [("__init__","NoPlace.__init__",["self","at"],48,2,[])] ["at"]::
Bt 187 422 11 Bu "NoPart" 51 [("__init__","NoPart.__init__",["self","at"],53,2,[])] ["at"]::
Bt 206 447 12 Bu "NoMember" 56 [("__init__","NoMember.__init__",["self","k"],58,2,[])] ["k"]::
iE "BOUND" 475 (.int 1000000000 474)::
iF 225 476 15 Mw "is_whole" ["thing"] 63 1::
iF 232 483 16 Mw "is_content" ["thing"] 65 1::
iE "NAMES" 498 (.ref 239)::
iR (λ_=>[oS ["here","there","left","way","sign","met"] 492])::
iF 240 499 19 KR "is_box" ["thing"] 69 1::
iF 247 506 20 KR "is_number" ["thing"] 71 1::
iF 254 513 21 KR "fits" ["box","thing"] 73 2::
iC 261 521 22 KR "Boxes" 81 [("__init__","Boxes.__init__",["self","here","there","left","way","sign","met","handed","box","number"],83,7,[(⟨.type "tuple",none,.seq #[.int 0 533,.int 0 534,.int 0 535,.int 1 536,.int 0 537,.int 0 538] 0,#[]⟩,6)]),("holds","Boxes.holds",["self","box"],90,2,[]),("give","Boxes.give",["self","box","number"],95,3,[]),("told","Boxes.told",[],102,1,[]),("copied","Boxes.copied",["self","other"],105,1,[])] ["numbers"]::
iF 309 597 24 EW "check_box" ["word","box"] 110 2::
iF 316 605 25 EW "check_number" ["word","number"] 113 2::
iC 323 613 0 EW "Deed" 116 [] [] [.ref 367,.ref 400,.ref 433,.ref 466,.ref 499,.ref 891,.ref 959,.ref 985,.ref 1011,.ref 1037,.ref 1063,.ref 1089]::
yc 337 633 27 EW "Set" 118 [("__init__","Set.__init__",["self","box","number"],120,3,[]),("step","Set.step",["self","boxes","store"],126,3,[]),("words","Set.words",["self"],130,1,[])] ["box","number"]::[]
abbrev j9:List It:=
yc 370 676 28 EW "Add" 132 [("__init__","Add.__init__",["self","box","number"],134,3,[]),("step","Add.step",["self","boxes","store"],140,3,[]),("words","Add.words",["self"],144,1,[])] ["box","number"]::
yc 403 719 29 EW "Take" 146 [("__init__","Take.__init__",["self","box","other"],148,3,[]),("step","Take.step",["self","boxes","store"],154,3,[]),("words","Take.words",["self"],158,1,[])] ["box","other"]::
yc 436 762 30 EW "Read" 160 [("__init__","Read.__init__",["self","box"],162,2,[]),("step","Read.step",["self","boxes","store"],166,3,[]),("words","Read.words",["self"],170,1,[])] ["box"]::
yc 469 803 31 EW "Write" 172 [("__init__","Write.__init__",["self","box"],174,2,[]),("step","Write.step",["self","boxes","store","number"],178,3,[]),("words","Write.words",["self"],185,1,[])] ["box"]::
iE "MOST_ROWS" 848 (.int 24 847)::
iF 502 849 34 Kq "check_rows" ["rows","at","thing"] 189 1::
iF 509 858 35 Kq "check_place" ["at","many"] 195 2::
iF 516 866 36 Kq "tried" ["deed","boxes","store","stop","refusal"] 198 3::
iC 523 877 37 Kq "Machine" 205 [("__init__","Machine.__init__",["self","rows","store","boxes","at"],207,5,[(⟨.type "tuple",none,.seq #[.int 0 889] 0,#[]⟩,1)]),("ended","Machine.ended",["self"],215,1,[]),("step_on","Machine.step_on",["self","store","by"],218,2,[]),("step","Machine.step",["self"],227,1,[]),("run","Machine.run",["self","most","steps"],230,2,[]),("why","Machine.why",["self"],240,1,[]),("state","Machine.state",["self"],243,1,[]),("leaves","Machine.leaves",["self"],246,1,[]),("leave","Machine.leave",["self","low","behind","word"],249,4,[]),("rows","Machine.rows",[],252,1,[]),("copied","Machine.copied",["self"],255,1,[])] ["at","boxes","deeds","store"]::
iE "MOST_CELLS" 992 (.int 60 991)::
iE "LEAVES" 996 (.ref 613)::
iR (λ_=>[oS ["open","look","shut"] 993])::
iF 614 997 41 Ks "check_cells" ["cells","at","thing"] 260 1::
iF 621 1006 42 Ks "is_leave" ["word"] 266 1::
iF 628 1013 43 Ks "is_within" ["low","behind","size"] 268 3::
iC 635 1022 44 Ks "Store" 270 [("__init__","Store.__init__",["self","cells"],272,2,[]),("size","Store.size",["self"],277,1,[]),("told","Store.told",["self"],280,1,[]),("leaves","Store.leaves",["self"],283,1,[]),("leave","Store.leave",["self","low","behind","word","cell"],286,4,[]),("may","Store.may",["self","deed","cell"],292,3,[]),("look","Store.look",["self","cell"],299,2,[]),("put","Store.put",["self","cell","content"],304,3,[]),("restore","Store.restore",["self","cell","content"],309,3,[]),("copied","Store.copied",["self","other"],312,1,[])] ["contents","permits"]::[]
abbrev FI:List It:=
iF 719 1129 46 Mp "shared" ["one","other","low","behind"] 318 2::
iF 726 1139 47 Mp "apart" ["stretches","place","stretch","earlier"] 324 1::
iE "MOST_MEMBERS" 1152 (.int 4 1151)::
iE "THINGS_OF_A_MEMBER" 1154 (.int 4 1153)::
iF 733 1155 51 Kz "is_member" ["thing"] 333 1::
iF 740 1162 52 Kz "are_members" [] 335 1::
iF 745 1168 53 Kz "is_part" ["part","size"] 339 2::
iF 752 1176 54 Kz "parts_of" ["members","size","parts","at","member","part"] 341 2::
iF 759 1190 56 MD "machine_on" ["cells","part","member"] 352 3::
iC 766 1199 57 MD "Crew" 354 [("__init__","Crew.__init__",[],356,3,[]),("check_member","Crew.check_member",["self","k"],361,2,[]),("machine_of","Crew.machine_of",["self","k"],365,2,[]),("step","Crew.step",["self","k"],369,2,[]),("run","Crew.run",["self","k","most"],372,3,[]),("why","Crew.why",["self","k"],375,2,[]),("state","Crew.state",["self","k"],378,2,[]),("go","Crew.go",[],381,2,[]),("floor","Crew.floor",["self","cells","part","machine"],386,1,[]),("leave","Crew.leave",["self","low","behind","word","part","machine","both"],392,4,[])] ["ground","machines","parts"]::
iE "MOST_HOPPED" 1309 (.int 24 1308)::
iF 846 1310 60 GQ "is_many" ["thing"] 400 1::
iF 853 1317 61 GQ "is_on" ["thing"] 402 1::
yc 860 1324 62 GQ "Hop" 404 [("__init__","Hop.__init__",["self","many","on"],406,3,[(⟨.type "tuple",none,.seq #[.none] 0,#[]⟩,0)]),("step","Hop.step",["self","boxes","store"],412,3,[]),("words","Hop.words",["self","told"],417,1,[])] ["many","on"]::
iF 894 1370 64 kb "more" ["boxes","box","by"] 423 3::
iF 901 1379 65 kb "go_by_way" ["boxes","box"] 425 2::
iF 908 1387 66 kb "less_left" ["boxes","by"] 427 2::
iF 915 1395 67 kb "ask_put" ["store","cell"] 430 2::
iF 922 1403 68 kb "haul" ["store","source","target","content"] 433 3::
iF 929 1413 69 kb "exchange" ["store","one","other","first","second"] 436 3::
yc 936 1424 70 kb "Copy" 443 [("step","Copy.step",["self","boxes","store"],445,3,[]),("words","Copy.words",["self"],453,1,[])] []::
yc 962 1456 71 kb "Fill" 455 [("step","Fill.step",["self","boxes","store"],457,3,[]),("words","Fill.words",["self"],464,1,[])] []::
yc 988 1488 72 kb "Seek" 466 [("step","Seek.step",["self","boxes","store"],468,3,[]),("words","Seek.words",["self"],479,1,[])] []::[]
abbrev JI:List It:=
yc 1014 1520 73 kb "Match" 481 [("step","Match.step",["self","boxes","store","content"],483,3,[]),("words","Match.words",["self"],496,1,[])] []::
yc 1040 1553 74 kb "Shift" 498 [("step","Shift.step",["self","boxes","store","left","here","there"],500,3,[]),("words","Shift.words",["self"],514,1,[])] []::
yc 1066 1588 75 kb "Turn" 516 [("step","Turn.step",["self","boxes","store","left","here"],518,3,[]),("words","Turn.words",["self"],529,1,[])] []::
iF 1092 1624 77 cp "_law_hand" ["_law_script","_law_cells","_law_fold","_law_cell"] 532 1::
iF 1099 1634 78 cp "_law_draw" ["_law_hand_here","_law_many","_law_rest","_law_cell","_law_one","_law_two"] 538 2::
iF 1106 1646 79 cp "_law_whole" ["_law_thing"] 554 1::
iF 1113 1653 80 cp "_law_spec" ["_law_hand_here","_law_size","_law_way","_law_names","_law_box","_law_pick"] 556 2::
iF 1120 1665 81 cp "_law_deed" ["_law_spec_here","_law_word"] 574 1::
iF 1127 1673 82 cp "_law_long" ["_law_word"] 589 1::
iF 1134 1680 83 cp "_law_let" ["_law_leaves","_law_deed_here","_law_cell"] 601 3::
iF 1141 1689 84 cp "_law_reach" ["_law_spec_here","_law_boxes","_law_here","_law_there","_law_left","_law_word","_law_far"] 605 2::
iF 1148 1702 85 cp "_law_fits" ["_law_box","_law_number"] 628 2::
iF 1155 1710 86 cp "_law_barred" ["_law_spec_here","_law_boxes","_law_leaves","_law_looks","_law_puts","_law_cell"] 636 3::
iF 1162 1722 87 cp "_law_step" ["_law_spec_here","_law_boxes","_law_cells","_law_leaves","_law_barred_here","_law_word","_law_number"] 647 4::
iF 1169 1735 88 cp "_law_moved" ["_law_word","_law_boxes","_law_cells","_law_here","_law_there","_law_left","_law_way","_law_size","_law_content"] 670 3::
iF 1176 1750 89 cp "_law_looked" ["_law_word","_law_boxes","_law_cells","_law_here","_law_there","_law_left","_law_way","_law_other"] 699 3::
iF 1183 1764 90 cp "_law_floor" [] 717 2::
iF 1188 1770 91 cp "_law_six" [] 719 2::
iF 1193 1776 92 cp "_law_parts" ["_law_hand_here","_law_size","_law_parts_here","_law_low","_law_k","_law_behind"] 726 2::
iF 1200 1788 93 cp "_law_members" [] 735 3::
iF 1205 1794 94 cp "_law_crew" [] 741 2::
iF 1210 1800 95 cp "_law_worlds" ["_law_cells","_law_members_here","_law_worlds_here","_law_low","_law_behind","_law_specs","_law_six_here"] 747 2::
iF 1217 1813 96 cp "_law_goes" ["_law_specs","_law_world","_law_told"] 752 2::
iF 1224 1822 97 cp "_law_member_stands" ["_law_found","_law_world"] 760 2::
iF 1231 1830 98 cp "_law_stands" [] 764 4::
iF 1236 1836 99 cp "_law_given" ["_law_crew_here","_law_members_here","_law_worlds_here","_law_low","_law_behind","_law_word","_law_told","_law_k","_law_cell"] 773 6::
iF 1243 1851 100 cp "_law_ran" ["_law_specs","_law_world","_law_most","_law_done","_law_word"] 779 3::[]
abbrev Nb (P:Params):List Obj:=oW [(12,⟨.none,none,.fields #[.int 1 0,.int 0 0,.ref 20,.int 5 0,.int 0 0,.ref 27,.int 7 0,.int 0 0,.ref 40,.int 12 0,.int 0 0,.ref 59,.int 19 0,.int 0 0,.ref 78,.int 25 0,.int 0 0,.ref 97,.int 31 0,.int 0 0,.ref 116,.int 36 0,.int 0 0,.ref 135,.int 41 0,.int 0 0,.ref 154,.int 46 0,.int 0 0,.ref 173,.int 51 0,.int 0 0,.ref 192,.int 56 0,.int 0 0,.ref 211,.int 63 0,.int 0 0,.ref 230,.int 65 0,.int 0 0,.ref 237,.int 69 0,.int 0 0,.ref 245,.int 71 0,.int 0 0,.ref 252,.int 73 0,.int 0 0,.ref 259,.int 81 0,.int 0 0,.ref 266,.int 110 0,.int 0 0,.ref 314,.int 113 0,.int 0 0,.ref 321,.int 116 0,.int 0 0,.ref 328,.int 118 0,.int 0 0,.ref 342],#[]⟩),(332,⟨.type "type",none,.cls ⟨"Deed",[.type "object"],[.ref 332,.type "object"],331,"Deed",true,[],[.ref 367],false,none,false⟩,#[none,none,some (.str "Deed" 613),some (.str "Deed" 621),some (.builtin "object.__new__"),some (.bool true)]⟩)] (Ig P "haulbell.deeds" 595 33 AW)
abbrev MM (P:Params):List Obj:=oW [(12,⟨.none,none,.fields #[.int 1 0,.int 0 0,.ref 20,.int 5 0,.int 0 0,.ref 27,.int 7 0,.int 0 0,.ref 40,.int 12 0,.int 0 0,.ref 59,.int 19 0,.int 0 0,.ref 78,.int 25 0,.int 0 0,.ref 97,.int 31 0,.int 0 0,.ref 116,.int 36 0,.int 0 0,.ref 135,.int 41 0,.int 0 0,.ref 154,.int 46 0,.int 0 0,.ref 173,.int 51 0,.int 0 0,.ref 192,.int 56 0,.int 0 0,.ref 211,.int 63 0,.int 0 0,.ref 230,.int 65 0,.int 0 0,.ref 237,.int 69 0,.int 0 0,.ref 245,.int 71 0,.int 0 0,.ref 252,.int 73 0,.int 0 0,.ref 259,.int 81 0,.int 0 0,.ref 266,.int 110 0,.int 0 0,.ref 314,.int 113 0,.int 0 0,.ref 321,.int 116 0,.int 0 0,.ref 328,.int 118 0,.int 0 0,.ref 342,.int 132 0,.int 0 0,.ref 375,.int 146 0,.int 0 0,.ref 408,.int 160 0,.int 0 0,.ref 441,.int 172 0,.int 0 0,.ref 474,.int 189 0,.int 0 0,.ref 507,.int 195 0,.int 0 0,.ref 514,.int 198 0,.int 0 0,.ref 521,.int 205 0,.int 0 0,.ref 528,.int 260 0,.int 0 0,.ref 619,.int 266 0,.int 0 0,.ref 626,.int 268 0,.int 0 0,.ref 633,.int 270 0,.int 0 0,.ref 640],#[]⟩),(332,⟨.type "type",none,.cls ⟨"Deed",[.type "object"],[.ref 332,.type "object"],331,"Deed",true,[],[.ref 367,.ref 400,.ref 433,.ref 466,.ref 499],false,none,false⟩,#[none,none,some (.str "Deed" 613),some (.str "Deed" 621),some (.builtin "object.__new__"),some (.bool true)]⟩)] (Ig P "haulbell.store" 989 48 (AW++j9))
abbrev MI (P:Params):List Obj:=oW [(12,⟨.none,none,.fields #[.int 1 0,.int 0 0,.ref 20,.int 5 0,.int 0 0,.ref 27,.int 7 0,.int 0 0,.ref 40,.int 12 0,.int 0 0,.ref 59,.int 19 0,.int 0 0,.ref 78,.int 25 0,.int 0 0,.ref 97,.int 31 0,.int 0 0,.ref 116,.int 36 0,.int 0 0,.ref 135,.int 41 0,.int 0 0,.ref 154,.int 46 0,.int 0 0,.ref 173,.int 51 0,.int 0 0,.ref 192,.int 56 0,.int 0 0,.ref 211,.int 63 0,.int 0 0,.ref 230,.int 65 0,.int 0 0,.ref 237,.int 69 0,.int 0 0,.ref 245,.int 71 0,.int 0 0,.ref 252,.int 73 0,.int 0 0,.ref 259,.int 81 0,.int 0 0,.ref 266,.int 110 0,.int 0 0,.ref 314,.int 113 0,.int 0 0,.ref 321,.int 116 0,.int 0 0,.ref 328,.int 118 0,.int 0 0,.ref 342,.int 132 0,.int 0 0,.ref 375,.int 146 0,.int 0 0,.ref 408,.int 160 0,.int 0 0,.ref 441,.int 172 0,.int 0 0,.ref 474,.int 189 0,.int 0 0,.ref 507,.int 195 0,.int 0 0,.ref 514,.int 198 0,.int 0 0,.ref 521,.int 205 0,.int 0 0,.ref 528,.int 260 0,.int 0 0,.ref 619,.int 266 0,.int 0 0,.ref 626,.int 268 0,.int 0 0,.ref 633,.int 270 0,.int 0 0,.ref 640,.int 318 0,.int 0 0,.ref 724,.int 324 0,.int 0 0,.ref 731,.int 333 0,.int 0 0,.ref 738,.int 335 0,.int 0 0,.ref 743,.int 339 0,.int 0 0,.ref 750,.int 341 0,.int 0 0,.ref 757,.int 352 0,.int 0 0,.ref 764,.int 354 0,.int 0 0,.ref 771,.int 400 0,.int 0 0,.ref 851,.int 402 0,.int 0 0,.ref 858,.int 404 0,.int 0 0,.ref 865,.int 423 0,.int 0 0,.ref 899,.int 425 0,.int 0 0,.ref 906,.int 427 0,.int 0 0,.ref 913,.int 430 0,.int 0 0,.ref 920,.int 433 0,.int 0 0,.ref 927,.int 436 0,.int 0 0,.ref 934,.int 443 0,.int 0 0,.ref 941,.int 455 0,.int 0 0,.ref 967,.int 466 0,.int 0 0,.ref 993],#[]⟩),(332,⟨.type "type",none,.cls ⟨"Deed",[.type "object"],[.ref 332,.type "object"],331,"Deed",true,[],[.ref 367,.ref 400,.ref 433,.ref 466,.ref 499,.ref 891,.ref 959,.ref 985,.ref 1011],false,none,false⟩,#[none,none,some (.str "Deed" 613),some (.str "Deed" 621),some (.builtin "object.__new__"),some (.bool true)]⟩)] (Ig P "haulbell.longs" 1368 71 (AW++j9++FI))
abbrev M6 (P:Params):List Obj:=oW [(12,⟨.none,none,.fields #[.int 1 0,.int 0 0,.ref 20,.int 5 0,.int 0 0,.ref 27,.int 7 0,.int 0 0,.ref 40,.int 12 0,.int 0 0,.ref 59,.int 19 0,.int 0 0,.ref 78,.int 25 0,.int 0 0,.ref 97,.int 31 0,.int 0 0,.ref 116,.int 36 0,.int 0 0,.ref 135,.int 41 0,.int 0 0,.ref 154,.int 46 0,.int 0 0,.ref 173,.int 51 0,.int 0 0,.ref 192,.int 56 0,.int 0 0,.ref 211,.int 63 0,.int 0 0,.ref 230,.int 65 0,.int 0 0,.ref 237,.int 69 0,.int 0 0,.ref 245,.int 71 0,.int 0 0,.ref 252,.int 73 0,.int 0 0,.ref 259,.int 81 0,.int 0 0,.ref 266,.int 110 0,.int 0 0,.ref 314,.int 113 0,.int 0 0,.ref 321,.int 116 0,.int 0 0,.ref 328,.int 118 0,.int 0 0,.ref 342,.int 132 0,.int 0 0,.ref 375,.int 146 0,.int 0 0,.ref 408,.int 160 0,.int 0 0,.ref 441,.int 172 0,.int 0 0,.ref 474,.int 189 0,.int 0 0,.ref 507,.int 195 0,.int 0 0,.ref 514,.int 198 0,.int 0 0,.ref 521,.int 205 0,.int 0 0,.ref 528,.int 260 0,.int 0 0,.ref 619,.int 266 0,.int 0 0,.ref 626,.int 268 0,.int 0 0,.ref 633,.int 270 0,.int 0 0,.ref 640,.int 318 0,.int 0 0,.ref 724,.int 324 0,.int 0 0,.ref 731,.int 333 0,.int 0 0,.ref 738,.int 335 0,.int 0 0,.ref 743,.int 339 0,.int 0 0,.ref 750,.int 341 0,.int 0 0,.ref 757,.int 352 0,.int 0 0,.ref 764,.int 354 0,.int 0 0,.ref 771,.int 400 0,.int 0 0,.ref 851,.int 402 0,.int 0 0,.ref 858,.int 404 0,.int 0 0,.ref 865,.int 423 0,.int 0 0,.ref 899,.int 425 0,.int 0 0,.ref 906,.int 427 0,.int 0 0,.ref 913,.int 430 0,.int 0 0,.ref 920,.int 433 0,.int 0 0,.ref 927,.int 436 0,.int 0 0,.ref 934,.int 443 0,.int 0 0,.ref 941,.int 455 0,.int 0 0,.ref 967,.int 466 0,.int 0 0,.ref 993,.int 481 0,.int 0 0,.ref 1019,.int 498 0,.int 0 0,.ref 1045,.int 516 0,.int 0 0,.ref 1071,.int 532 0,.int 0 0,.ref 1097,.int 538 0,.int 0 0,.ref 1104,.int 554 0,.int 0 0,.ref 1111,.int 556 0,.int 0 0,.ref 1118,.int 574 0,.int 0 0,.ref 1125,.int 589 0,.int 0 0,.ref 1132,.int 601 0,.int 0 0,.ref 1139,.int 605 0,.int 0 0,.ref 1146,.int 628 0,.int 0 0,.ref 1153,.int 636 0,.int 0 0,.ref 1160,.int 647 0,.int 0 0,.ref 1167,.int 670 0,.int 0 0,.ref 1174,.int 699 0,.int 0 0,.ref 1181,.int 717 0,.int 0 0,.ref 1186,.int 719 0,.int 0 0,.ref 1191,.int 726 0,.int 0 0,.ref 1198,.int 735 0,.int 0 0,.ref 1203,.int 741 0,.int 0 0,.ref 1208,.int 747 0,.int 0 0,.ref 1215,.int 752 0,.int 0 0,.ref 1222,.int 760 0,.int 0 0,.ref 1229,.int 764 0,.int 0 0,.ref 1234,.int 773 0,.int 0 0,.ref 1241,.int 779 0,.int 0 0,.ref 1248],#[]⟩)] (Ig P "law_haulbell_k73_whole_any_order" 1622 98 (AW++j9++FI++JI))
abbrev S0 (P:Params)(os:OsState):SharedT:=⟨GG 0 .nil (MX P),15,(boot_heap P).life,Array.mk [],boot_drawn,187,os⟩
abbrev q0:Pos:=⟨0,0,0,0⟩
abbrev S1 (P:Params)(os:OsState):SharedT:=⟨GG 0 .nil (Nb P),370,(boot_heap P).life,Array.mk [],boot_drawn,676,os⟩
abbrev q1:Pos:=⟨118,0,131,50⟩
abbrev S2 (P:Params)(os:OsState):SharedT:=⟨GG 0 .nil (MM P),719,(boot_heap P).life,Array.mk [],boot_drawn,1127,os⟩
abbrev q2:Pos:=⟨270,0,316,20⟩
abbrev S3 (P:Params)(os:OsState):SharedT:=⟨GG 0 .nil (MI P),1014,(boot_heap P).life,Array.mk [],boot_drawn,1520,os⟩
abbrev q3:Pos:=⟨466,0,480,23⟩
abbrev S4 (P:Params)(os:OsState):SharedT:=⟨GG 0 .nil (M6 P),1250,(boot_heap P).life,Array.mk [],boot_drawn,1862,os⟩
abbrev q4:Pos:=⟨779,0,787,69⟩
abbrev Ni (P:Params):List Obj:=Ig P "law_haulbell_k73_whole_any_order" 1622 99 (AW++j9++FI++JI++[iF 1250 1862 101 cp "law" [] 788 1])
abbrev K0 (P:Params):PySem.W.Frag:=KC.map λa=>(a,(Ni P).getD a oN)
abbrev rE (p:Program):Program:=PySem.W.view p [101]
abbrev zk:List Str:="_wall"::"HaulError"::"NoStore"::"NoLeave"::"Stop"::"NoFit"::"NoBox"::"NoDeed"::"NoRows"::"NoPlace"::"NoPart"::"NoMember"::"BOUND"::"is_whole"::"is_content"::"NAMES"::"is_box"::"is_number"::"fits"::"Boxes"::"check_box"::"check_number"::"Deed"::"Set"::"Add"::"Take"::"Read"::"Write"::"MOST_ROWS"::"check_rows"::"check_place"::"tried"::"Machine"::"MOST_CELLS"::"LEAVES"::"check_cells"::"is_leave"::"is_within"::"Store"::"shared"::"apart"::"MOST_MEMBERS"::"THINGS_OF_A_MEMBER"::"is_member"::"are_members"::"is_part"::"parts_of"::"machine_on"::"Crew"::"MOST_HOPPED"::"is_many"::"is_on"::"Hop"::"more"::"go_by_way"::"less_left"::"ask_put"::"haul"::"exchange"::"Copy"::"Fill"::"Seek"::"Match"::"Shift"::"Turn"::"_law_hand"::"_law_draw"::"_law_whole"::"_law_spec"::"_law_deed"::"_law_long"::"_law_let"::"_law_reach"::"_law_fits"::"_law_barred"::"_law_step"::"_law_moved"::"_law_looked"::"_law_floor"::"_law_six"::"_law_parts"::"_law_members"::"_law_crew"::"_law_worlds"::"_law_goes"::"_law_member_stands"::"_law_stands"::"_law_given"::"_law_ran"::[]
end My
open PySem PySem.W in
set_option maxHeartbeats 0 in
def My.Fc (w:World)(os:OsState):My.runK treeTable My.pr w 11 (some (.ref 6)) 12 (My.KQ w.params os) (topStub My.pr)=some (My.S0 w.params os,⟨denote treeTable (.body (ac My.pr) (My.jh My.pr)),.body (ac My.pr) (My.jh My.pr),default,[My.Ml]⟩):=by
  delta My.pr;rewrite[Fast.te2368527892694137696,Fast.te14364793385576792824]
  kernel_rfl
open PySem PySem.W in
set_option maxHeartbeats 0 in
def My.Ge (w:World)(os:OsState)(B:List Stmt):My.runK treeTable My.pr w 11 (some (.ref 6)) 3803 (My.S0 w.params os) (My.jf My.pr (((ac My.pr).drop 0).take 28++B) My.q0)=some (My.S1 w.params os,My.jf My.pr B My.q1):=by
  delta My.pr;rewrite[Fast.te2368527892694137696,Fast.te14364793385576792824]
  kernel_rfl
open PySem PySem.W in
set_option maxHeartbeats 0 in
def My.Ho (w:World)(os:OsState)(B:List Stmt):My.runK treeTable My.pr w 11 (some (.ref 6)) 2533 (My.S1 w.params os) (My.jf My.pr (((ac My.pr).drop 28).take 17++B) My.q1)=some (My.S2 w.params os,My.jf My.pr B My.q2):=by
  delta My.pr;rewrite[Fast.te2368527892694137696,Fast.te14364793385576792824]
  kernel_rfl
open PySem PySem.W in
set_option maxHeartbeats 0 in
def My.HI (w:World)(os:OsState)(B:List Stmt):My.runK treeTable My.pr w 11 (some (.ref 6)) 2183 (My.S2 w.params os) (My.jf My.pr (((ac My.pr).drop 45).take 28++B) My.q2)=some (My.S3 w.params os,My.jf My.pr B My.q3):=by
  delta My.pr;rewrite[Fast.te2368527892694137696,Fast.te14364793385576792824]
  kernel_rfl
open PySem PySem.W in
set_option maxHeartbeats 0 in
def My.F8 (w:World)(os:OsState)(B:List Stmt):My.runK treeTable My.pr w 11 (some (.ref 6)) 1599 (My.S3 w.params os) (My.jf My.pr (((ac My.pr).drop 73).take 28++B) My.q3)=some (My.S4 w.params os,My.jf My.pr B My.q4):=by
  delta My.pr;rewrite[Fast.te2368527892694137696,Fast.te14364793385576792824]
  kernel_rfl
open PySem PySem.W in
set_option maxHeartbeats 0 in
def My.IY:LeftO My.pr (My.rE My.pr) My.zk (λs=>xlAt (My.rE My.pr) [] s&&recOk PySem.Challenge.rw_haulbell_k73_whole_any_order.row.records s) (λs=>My.KC.map s.heap.get?) (λw=>(My.K0 w.params).map λp=>some p.2) 20414:=by
  refine My.xq (by kernel_rfl) rfl (λ_=>by kernel_rfl) (λ_=>by kernel_rfl) (λ_=>by kernel_rfl) λw os=>?_
  have d:denote treeTable (.body (ac My.pr) (My.jh My.pr))=My.Cn My.pr (ac My.pr):=My.Af (by kernel_rfl);have e:My.mi treeTable My.pr w 11 (some (.ref 6)) (12+(3803+(2533+(2183+(1599+(10284)))))) (My.KQ w.params os) (topStub My.pr)=My.mi treeTable My.pr w 11 (some (.ref 6)) 10284 (My.S4 w.params os) (My.jf My.pr ((ac My.pr).drop 101) My.q4):=by
    rw[My.cD (My.Fc w os)];dsimp only;rw[d];show My.mi treeTable My.pr w 11 (some (.ref 6)) _ (My.S0 w.params os) (My.jf My.pr ((ac My.pr).drop 0) My.q0)=_;rw[show (ac My.pr).drop 0=((ac My.pr).drop 0).take 28++(ac My.pr).drop 28 from by
      rw[show (ac My.pr).drop 28=((ac My.pr).drop 0).drop 28 by rw[List.drop_drop],List.take_append_drop],My.cD (My.Ge w os _)]
    rw[show (ac My.pr).drop 28=((ac My.pr).drop 28).take 17++(ac My.pr).drop 45 from by
      rw[show (ac My.pr).drop 45=((ac My.pr).drop 28).drop 17 by rw[List.drop_drop],List.take_append_drop],My.cD (My.Ho w os _)]
    rw[show (ac My.pr).drop 45=((ac My.pr).drop 45).take 28++(ac My.pr).drop 73 from by
      rw[show (ac My.pr).drop 73=((ac My.pr).drop 45).drop 28 by rw[List.drop_drop],List.take_append_drop],My.cD (My.HI w os _)]
    rw[show (ac My.pr).drop 73=((ac My.pr).drop 73).take 28++(ac My.pr).drop 101 from by
      rw[show (ac My.pr).drop 101=((ac My.pr).drop 73).drop 28 by rw[List.drop_drop],List.take_append_drop],My.cD (My.F8 w os _)]
  rw[show (20414:Nat)=12+(3803+(2533+(2183+(1599+(10284))))) from rfl,e]
  delta My.pr;rewrite[Fast.te4187177175401517315,Fast.te5923862056798008813,Fast.te2368527892694137696,Fast.te14364793385576792824]
  kernel_rfl
set_option Elab.async false
open List(mem_range filterMap_cons mem_cons_self mem_cons_of_mem mem_cons mem_append mem_append_left getElem?_set_self getElem?_set_ne mem_append_right size_toArray any_eq_false length_cons map_cons length_map append_nil nodup_cons of_mem_zip length_take getElem?_map take_sublist mem_of_getElem? length_append length_drop length_set all_cons any_cons replicate_succ flatten_cons append_assoc foldl_cons length_singleton nil_append find?_cons length_nil forIn_cons forIn_nil getElem?_eq_getElem getElem_mem drop_zero take_length lookup_cons take_of_length_le not_mem_nil length_zip set_comm all_eq_true length_eq_zero_iff zip_cons_cons zip_append take_append_drop isEmpty_iff mem_singleton mem_or_eq_of_mem_set take_succ map_replicate getElem?_of_mem getElem?_take map_append map_drop map_take)
@[reducible]def NA:Type:=Option PySem.Value->PySem.Shared->Prop
@[reducible]def NB:Type:=Unit->PySem.Shared->Prop
@[reducible]def NC:Type:=PySem.Value->PySem.Shared->Prop
@[reducible]def ND:Type:=List (PySem.Addr×PySem.Obj)
@[reducible]def NF:Type:=PySem.Str->Option PySem.Value
namespace L2
open PySem PySem.Spec PyProof.Rows
@[reducible]def Key:=Sum Int Str
abbrev ng:Key->Value->Bool
 | .inl k,v=>Value.isInt k v
 | .inr x,v=>Value.isStrOf x v
abbrev K9 (w:World):Key->Int
 | .inl k=>hashInt k
 | .inr x=>hashStr w x
def aM:∀ {k:Key}{v:Value},ng k v=true->(∃ i t,k=Sum.inl i/\v=Value.int i t)\/(∃ x t,k=Sum.inr x/\v=Value.str x t)
 | .inl i,v,h=>by
  obtain ⟨t,e⟩:=Value.isInt_shape (k:=i) (v:=v) h;exact .inl ⟨i,t,rfl,e⟩
 | .inr x,v,h=>by
  obtain ⟨t,e⟩:=Value.isStrOf_shape (x:=x) (v:=v) h;exact .inr ⟨x,t,rfl,e⟩
def xE (i:Int)(t:Tok):ng (.inl i) (.int i t)=true:=by simp[ng,Value.isInt]
def wk (x:Str)(t:Tok):ng (.inr x) (.str x t)=true:=by simp[ng,Value.isStrOf]
def Hq (a b:Int):decide ((Sum.inl a:Key)=Sum.inl b)=(a ==b):=by
 by_cases e:a=b
 ·subst e;simp
 ·have h:¬ (Sum.inl a:Key)=Sum.inl b:=λq=>e (Sum.inl.inj q)
  rw[decide_eq_false h];exact (beq_eq_false_iff_ne.mpr e).symm
def Gb (a b:Str):decide ((Sum.inr a:Key)=Sum.inr b)=decide (a=b):=by
 by_cases e:a=b
 ·subst e;simp
 ·have h:¬ (Sum.inr a:Key)=Sum.inr b:=λq=>e (Sum.inr.inj q)
  rw[decide_eq_false h,decide_eq_false e]
def E9 (a:Int)(b:Str):decide ((Sum.inl a:Key)=Sum.inr b)=false:=decide_eq_false (λq=>nomatch q)
def GX (a:Str)(b:Int):decide ((Sum.inr a:Key)=Sum.inl b)=false:=decide_eq_false (λq=>nomatch q)
abbrev ay (prog:Program)(w:World):PySem.KeyKind prog w Key where
 is:=ng
 hash:=K9 w
 inj:=λv a b ha hb=>by
  rcases aM ha with ⟨i,t,rfl,rfl⟩|⟨x,t,rfl,rfl⟩
  ·rcases aM hb with ⟨j,u,rfl,e⟩|⟨y,u,rfl,e⟩
   ·injection e with e1 _;rw[e1]
   ·exact nomatch e
  ·rcases aM hb with ⟨j,u,rfl,e⟩|⟨y,u,rfl,e⟩
   ·exact nomatch e
   ·injection e with e1 _;rw[e1]
 byValue:=λk v h=>by
  rcases aM h with ⟨i,t,rfl,rfl⟩|⟨x,t,rfl,rfl⟩<;>rfl
 pyHash:=λhv h=>by
  rcases aM hv with ⟨i,t,rfl,rfl⟩|⟨x,t,rfl,rfl⟩
  ·exact wpAny_pyHash_int h
  ·exact wpAny_pyHash_str h
 eqBool:=λhu hv h=>by
  rcases aM hu with ⟨i,t,rfl,rfl⟩|⟨x,t,rfl,rfl⟩
  ·rcases aM hv with ⟨j,u,rfl,rfl⟩|⟨y,u,rfl,rfl⟩
   ·rw[Hq] at h;exact wpAny_eqBool_int h
   ·rw[E9] at h;exact SeqAt.EqAt.int_str i t y u _ _ _ _ h
  ·rcases aM hv with ⟨j,u,rfl,rfl⟩|⟨y,u,rfl,rfl⟩
   ·rw[GX] at h;exact SeqAt.EqAt.str_int x t j u _ _ _ _ h
   ·rw[Gb] at h;exact wpAny_eqBool_str h
 «strs»:=λk x t v h=>by
  rcases aM h with ⟨i,u,rfl,e⟩|⟨y,u,rfl,e⟩
  ·exact nomatch e
  ·injection e with e1 _
   subst e1;cases v<;>rfl
def sv (prog:Program)(w:World)(i:Int)(t:Tok):(ay prog w).is (.inl i) (.int i t)=true:=xE i t
def sr (prog:Program)(w:World)(x:Str)(t:Tok):(ay prog w).is (.inr x) (.str x t)=true:=wk x t
inductive V where
 |non|bl (b:Bool)|int (i:Int)|str (x:Str)|byt (b:Array UInt8)|flt (b:UInt64)|ref (a:Addr)|ty (n:String)
 deriving DecidableEq
abbrev RelV:V->Value->Prop
 | .non,u=>u=Value.none
 | .bl b,u=>u=Value.bool b
 | .int i,u=>∃ t,u=Value.int i t
 | .str x,u=>∃ t,u=Value.str x t
 | .byt b,u=>∃ t,u=Value.bytes b t
 | .flt b,u=>∃ t,u=Value.float b t
 | .ref a,u=>u=Value.ref a
 | .ty n,u=>u=Value.type n
@[reducible]def Vals:List V->List Value->Prop:=Paired RelV
variable {xs:List V}{us:List Value}
def Vals.length (r:Vals xs us):xs.length=us.length:=Paired.length r
def Vals.get:∀ {xs:List V}{us:List Value}{i:Nat}{x:V},Vals xs us->xs[i]? =some x->∃ u,us[i]? =some u/\RelV x u
 |_,_,_,_,.nil,e=>by simp at e
 |_,_,0,_,.cons r _,e=>by simp at e;subst e;exact ⟨_,rfl,r⟩
 |_,_,i+1,x,.cons _ t,e=>by
  obtain ⟨u,h1,h2⟩:=Vals.get (i:=i) (x:=x) t (by simpa using e);exact ⟨u,by simpa using h1,h2⟩
variable {u:Value}
def Vals.set {x:V}(r:RelV x u):∀ {xs:List V}{us:List Value}(i:Nat),Vals xs us->Vals (xs.set i x) (us.set i u)
 |_,_,_,.nil=>.nil
 |_,_,0,.cons _ t=>.cons r t
 |_,_,i+1,.cons q t=>.cons q (Vals.set r i t)
def Vals.append:∀ {xs ys:List V}{us ws:List Value},Vals xs us->Vals ys ws->Vals (xs++ys) (us++ws)
 |_,_,_,_,.nil,s=>s
 |_,_,_,_,.cons r t,s=>.cons r (Vals.append t s)
def Vals.take:∀ {xs:List V}{us:List Value}(n:Nat),Vals xs us->Vals (xs.take n) (us.take n)
 |_,_,0,_=>.nil
 |_,_,_+1,.nil=>.nil
 |_,_,n+1,.cons r t=>.cons r (Vals.take n t)
def Vals.drop:∀ {xs:List V}{us:List Value}(n:Nat),Vals xs us->Vals (xs.drop n) (us.drop n)
 |_,_,0,r=>r
 |_,_,_+1,.nil=>.nil
 |_,_,n+1,.cons _ t=>Vals.drop n t
abbrev dz:Option V->Option Value->Prop
 |some v,some u=>RelV v u
 |none,none=>True
 |_,_=>False
abbrev KV {κ:Type}:List (κ×V)->List (κ×Value)->Prop:=Paired λ(p:κ×V) (q:κ×Value)=>p.1=q.1/\RelV p.2 q.2
abbrev kV:Key->V
 | .inl i=>.int i
 | .inr x=>.str x
inductive HO where
  |lst (xs:List V)
  |tup (xs:List V)
  |dK (kvs:List (Key×V))|dT (kvs:List (List Key×V))
  |set (S:Int->Bool) (n:Nat)
  |ins (C dx:Addr) (fs:List (Str×V))
  |own (x:Addr)
  |exc (C:Addr) (dx:Option Addr) (fs:List (Str×V)) (fr:Bool)
  |xd (fs:List (Str×V))
  |met (f x:Addr)
  |rng (lo hi:Int)
  |frz (o:Obj) (u:HO)
  |tbl (ps:Array Value)
  |ext (φ:Heap->Prop)
@[reducible]def Hp:=Addr->Option HO
abbrev upd (H:Hp)(a:Addr)(o:HO):Hp:=λb=>if b=a then some o else H b
variable {H:Hp}{a:Addr}{o:HO}
def aA:upd H a o a=some o:=by unfold upd;rw[if_pos rfl]
variable {b:Addr}
def ah (h:b≠a):upd H a o b=H b:=by unfold upd;rw[if_neg h]
def BE {u:HO}:upd (upd H a o) a u=upd H a u:=by
 funext b;unfold upd;split<;>rfl
def JF {u:HO}(h:H a=some o)(h':H b=some u)(d:o≠u):a≠b:=by
 intro e;subst e;rw[h] at h';exact d (Option.some.inj h')
def aQ (h:H a=some o)(h':H b=none):a≠b:=by
 intro e;subst e;rw[h] at h';cases h'
section
variable (P:Program) (w:World)
abbrev aL (H:Hp)(h:Heap)(a:Addr):HO->Prop
 | .lst xs=>xs.length<=bn/\∃ (its:List Value) (n:Nat),Vals xs its/\h.get? a=some { cls:=.type "list",data:=.seq its.toArray n }
 | .tup xs=>xs.length<=bn/\∃ its:List Value,Vals xs its/\IsTup h a its.toArray
 | .dK kvs=>kvs.length<=bn/\(a ==sysModules)=false/\∃ vs,KV kvs vs/\h.DictOf (ay P w) a vs
 | .dT kvs=>kvs.length<=bn/\(a ==sysModules)=false/\∃ xs:List (List Key×Addr×Value),
   Paired (λ(p:List Key×V) (q:List Key×Addr×Value)=>p.1=q.1/\H q.2.1=some (.tup (p.1.map kV))/\RelV p.2 q.2.2) kvs xs/\
   ∃ o es ep,h.get? a=some o/\o.ExactDict/\o.data=.dict es ep/\es.toList=xs.map (entryOfKey (tupleKind (ay P w)))/\(xs.map (·.1)).Nodup
 | .set S n=>h.SetOf (intKind P w) a S n
 | .ins C dx fs=>H dx=some (.own a)/\fs.length<=1000/\dx≠a/\h.get? a=some (W.instObj C dx)/\
   ∃ mA,h.Ns1 dx mA/\(∀ f,dz (fs.lookup f) (mA f))/\PySem.Within mA (fs.map (·.1))
 | .exc C dx fs fr=>(∃ vs,h.get? a=some { cls:=.ref C,dict:=dx,data:=.fields vs }/\vs.size=6/\(fr=true->vs[1]? =some Value.none))/\
   ((dx=none/\fs=[])\/∃ d,dx=some d/\H d=some (.own a)/\fs.length<=1000/\d≠a/\∃ mA,h.Ns1 d mA/\(∀ f,dz (fs.lookup f) (mA f))/\PySem.Within mA (fs.map (·.1)))
 | .own _=>∃ o,h.get? a=some o
 | .xd fs=>∃ mA,h.Ns1 a mA/\∀ f,dz (fs.lookup f) (mA f)
 | .rng lo hi=>∃ t u v,h.get? a=some { cls:=.type "range",data:=.fields #[.int lo t,.int hi u,.int 1 v] }
 | .frz o u=>h.get? a=some o/\aL H h a u
 | .tbl ps=>h.get? a=some { cls:=.none,data:=.fields ps }
 | .met f x=>h.get? a=some (W.methodObj (.ref f) (.ref x))
 | .ext φ=>φ h/\(∃ o,h.get? a=some o)/\∀ h1 h2:Heap,φ h1->(∀ o,h1.get? a=some o->h2.get? a=some o)->φ h2
abbrev gq (H:Hp)(h:Heap):Prop:=∀ a o,H a=some o->aL P w H h a o
end
section
variable {P:Program}{w:World}{H H':Hp}{h h':Heap}{a:Addr}{o:HO}
def aL.lt (x:aL P w H h a o):a<h.objs.size:=by
 cases o with
 |lst xs=>obtain ⟨_,_,_,_,e⟩:=x;exact ut e
 |tup xs=>obtain ⟨_,_,_,p⟩:=x;exact p.lt
 |dK kvs=>obtain ⟨_,_,_,_,o,_,_,e,_⟩:=x;exact ut e
 |dT kvs=>obtain ⟨_,_,_,_,o,_,_,e,_⟩:=x;exact ut e
 |set S n=>obtain ⟨o,_,_,_,e,_⟩:=x;exact ut e
 |ins C dx fs=>obtain ⟨_,_,_,e,_⟩:=x;exact ut e
 |exc C dx fs fr=>obtain ⟨⟨_,e,_⟩,_⟩:=x;exact ut e
 |own y=>obtain ⟨_,e⟩:=x;exact ut e
 |xd fs=>obtain ⟨_,⟨_,_,_,e,_⟩,_⟩:=x;exact ut e
 |rng lo hi=>obtain ⟨_,_,_,e⟩:=x;exact ut e
 |frz ob u=>obtain ⟨e,_⟩:=x;exact ut e
 |tbl ps=>exact ut (show h.get? a=some _ from x)
 |met f y=>exact ut (show h.get? a=some _ from x)
 |ext φ=>obtain ⟨_,⟨_,e⟩,_⟩:=x;exact ut e
def Paired.Hd {α β:Type}{F G:α->β->Prop}:∀ {l₁:List α}{l₂:List β},Paired F l₁ l₂->(∀ a b,F a b->G a b)->Paired G l₁ l₂
 |_,_,.nil,_=>.nil
 |_,_,.cons r t,f=>.cons (f _ _ r) (Paired.Hd t f)
def aL.j3 (x:aL P w H h a o)(k:∀ b u,(b=a\/H b=some (.own a))->h.get? b=some u->h'.get? b=some u)
  (ho:∀ b,H b=some (.own a)->H' b=some (.own a)) (ht:∀ b xs,H b=some (.tup xs)->H' b=some (.tup xs)):aL P w H' h' a o:=by
 induction o with
 |lst xs=>obtain ⟨z,its,n,r,e⟩:=x;exact ⟨z,its,n,r,k _ _ (.inl rfl) e⟩
 |tup xs=>obtain ⟨z,its,r,ob,e,c⟩:=x;exact ⟨z,its,r,ob,k _ _ (.inl rfl) e,c⟩
 |dK kvs=>obtain ⟨z,y,vs,r,ob,es,ep,e,c⟩:=x;exact ⟨z,y,vs,r,ob,es,ep,k _ _ (.inl rfl) e,c⟩
 |dT kvs=>
  obtain ⟨z,y,xs,r,ob,es,ep,e,c⟩:=x;exact ⟨z,y,xs,Paired.Hd r λp q z=>⟨z.1,ht _ _ z.2.1,z.2.2⟩,ob,es,ep,k _ _ (.inl rfl) e,c⟩
 |set S n=>obtain ⟨ob,es,ep,t,e,c⟩:=x;exact ⟨ob,es,ep,t,k _ _ (.inl rfl) e,c⟩
 |ins C dx fs=>
  obtain ⟨d,z,ne,e,mA,⟨od,es,ep,e2,c⟩,r⟩:=x;exact ⟨ho _ d,z,ne,k _ _ (.inl rfl) e,mA,⟨od,es,ep,k _ _ (.inr d) e2,c⟩,r⟩
 |exc C dx fs fr=>
  obtain ⟨⟨vs,e,z⟩,q⟩:=x;refine ⟨⟨vs,k _ _ (.inl rfl) e,z⟩,?_⟩;rcases q with q|⟨d,ed,d1,z1,ne,mA,⟨od,es,ep,e2,c⟩,r⟩
  ·exact .inl q
  ·exact .inr ⟨d,ed,ho _ d1,z1,ne,mA,⟨od,es,ep,k _ _ (.inr d1) e2,c⟩,r⟩
 |own y=>obtain ⟨ob,e⟩:=x;exact ⟨ob,k _ _ (.inl rfl) e⟩
 |xd fs=>obtain ⟨mA,⟨od,es,ep,e,c⟩,r⟩:=x;exact ⟨mA,⟨od,es,ep,k _ _ (.inl rfl) e,c⟩,r⟩
 |rng lo hi=>obtain ⟨t,u,v,e⟩:=x;exact ⟨t,u,v,k _ _ (.inl rfl) e⟩
 |frz ob u ih=>obtain ⟨e,q⟩:=x;exact ⟨k _ _ (.inl rfl) e,ih q⟩
 |tbl ps=>
  have e:h.get? a=some { cls:=.none,data:=.fields ps }:=x;show h'.get? a=some { cls:=.none,data:=.fields ps };exact k a _ (.inl rfl) e
 |met f y=>
  have e:h.get? a=some (W.methodObj (.ref f) (.ref y)):=x;show h'.get? a=some (W.methodObj (.ref f) (.ref y));exact k a _ (.inl rfl) e
 |ext φ=>obtain ⟨p,⟨o,e⟩,st⟩:=x;exact ⟨st _ _ p λo q=>k _ _ (.inl rfl) q,⟨o,k _ _ (.inl rfl) e⟩,st⟩
def gq.lt (x:gq P w H h)(e:H a=some o):a<h.objs.size:=(x a o e).lt
def gq.fresh (x:gq P w H h)(e:h.objs.size<=a):H a=none:=by
 cases q:H a with
 |none=>rfl
 |some u=>exact absurd (ol (x.lt q) e) (Nat.lt_irrefl _)
def gq.kept (x:gq P w H h)(k:∀ b u,h.get? b=some u->h'.get? b=some u):gq P w H h':=λa o e=>
 (x a o e).j3 (λb u _ q=>k b u q) (λ_ q=>q) λ_ _ q=>q
def gq.laid (x:gq P w H h)(k:∀ b u,h.get? b=some u->h'.get? b=some u) (hp:h.objs.size<=a) (new:aL P w (upd H a o) h' a o):gq P w (upd H a o) h':=λb u e=>by
 have hn:=x.fresh hp
 by_cases hb:b=a
 ·subst hb;rw[aA] at e;cases e;exact new
 ·rw[ah hb] at e;exact (x b u e).j3 (λc v _ q=>k c v q) (λc q=>by rw[ah (aQ q hn)];exact q) λc xs q=>by rw[ah (aQ q hn)];exact q
end
abbrev Rd (H:Hp)(a:Addr)(u:HO):Prop:=H a=some u\/∃ o,H a=some (.frz o u)
variable {P:Program}{w:World}{h:Heap}
def Rd.ok {u:HO}(r:Rd H a u)(x:gq P w H h):aL P w H h a u:=by
 rcases r with r|⟨o,r⟩
 ·exact x a u r
 ·obtain ⟨_,q⟩:=x a _ r;exact q
abbrev Jl:Option HO->Prop
 |some (.lst _)=>True
 |some (.dK _)=>True
 |some (.dT _)=>True
 |some (.set _ _)=>True
 |some (.ins _ _ _)=>True
 |some (.exc _ _ _ _)=>True
 |some (.ext _)=>True
 |_=>False
section
variable {P:Program}{w:World}{H:Hp}{h h':Heap}{x e:Addr}{o':HO}
def gq.write (ok:gq P w H h)(mu:Jl (H x))(he:e=x\/H e=some (.own x))(k:∀ b u,b≠e->h.get? b=some u->h'.get? b=some u) (heo:∃ u,h'.get? e=some u)
  (new:aL P w (upd H x o') h' x o'):gq P w (upd H x o') h':=λb u q=>by
 have nown:∀ c y,H c=some (.own y)->c≠x:=λc y r z=>by subst z;rw[r] at mu;exact mu
 have ntup:∀ c xs,H c=some (.tup xs)->c≠x:=λc xs r z=>by subst z;rw[r] at mu;exact mu
 by_cases hb:b=x
 ·subst hb;rw[aA] at q;cases q;exact new
 ·rw[ah hb] at q
  by_cases hbe:b=e
  ·have q':H b=some (.own x):=by
    rcases he with z|z
    ·exact absurd (hbe.trans z) hb
    ·rw[hbe];exact z
   rw[q] at q';cases q';obtain ⟨v,hv⟩:=heo;exact ⟨v,by rw[hbe];exact hv⟩
  ·refine (ok b u q).j3 (λc v hc r=>k c v ?_ r) (λc r=>by rw[ah (nown c b r)];exact r) λc xs r=>by rw[ah (ntup c xs r)];exact r
   rcases hc with rfl|hc
   ·exact hbe
   ·rintro rfl;rcases he with z|z
    ·exact nown c b hc z
    ·rw[hc] at z;cases z;exact hb rfl
end
structure Un (fs ex:List Addr) (H H':Hp) (h h':Heap):Prop where
 keep:∀ b o,h.get? b=some o->H b=none->b ∉ fs->b ∉ ex->h'.get? b=some o
 slot:∀ b o,h.get? b=some o->H b=none->b ∈ fs->b ∉ ex->∃ sl,h'.get? b=some { o with slots:=sl }
 free:∀ b o,h.get? b=some o->H b=none->b ∉ ex->H' b=none
 there:∀ b o,h.get? b=some o->b ∉ ex->∃ o',h'.get? b=some o'
 tups:∀ b xs,H b=some (.tup xs)->H' b=some (.tup xs)
 frzs:∀ b o u,H b=some (.frz o u)->H' b=some (.frz o u)
 tbls:∀ b ps,H b=some (.tbl ps)->∃ more,H' b=some (.tbl (ps++more))
section
variable {fs fs' ex ex':List Addr}{H H1 H2:Hp}{h h1 h2 h':Heap}{a x e:Addr}{o:HO}
def Un.any (u:Un fs ex H H1 h h1){ob:Obj}(q:h.get? b=some ob)(n:H b=none)(hx:b ∉ ex):∃ sl,h1.get? b=some { ob with slots:=sl }:=by
 by_cases hb:b ∈ fs
 ·exact u.slot b ob q n hb hx
 ·exact ⟨ob.slots,u.keep b ob q n hb hx⟩
def Un.kept (k:∀ b u,h.get? b=some u->h'.get? b=some u):Un fs ex H H h h':=
 ⟨λb ob q _ _ _=>k b ob q,λb ob q _ _ _=>⟨ob.slots,k b ob q⟩,λ_ _ _ n _=>n,λb ob q _=>⟨ob,k b ob q⟩,λ_ _ q=>q,λ_ _ _ q=>q,λ_ ps q=>⟨#[],by rw[q];simp⟩⟩
def Un.refl:Un fs ex H H h h:=Un.kept λ_ _ q=>q
def Un.laid (k:∀ b u,h.get? b=some u->h'.get? b=some u) (hp:h.objs.size<=a) (hn:H a=none):Un fs ex H (upd H a o) h h' where
 keep:=λb u q _ _ _=>k b u q
 slot:=λb u q _ _ _=>⟨u.slots,k b u q⟩
 free:=λb u q n _=>by rw[ah (pi (ol (ut q) hp))];exact n
 there:=λb u q _=>⟨u,k b u q⟩
 tups:=λb xs q=>by rw[ah (aQ q hn)];exact q
 frzs:=λb u xs q=>by rw[ah (aQ q hn)];exact q
 tbls:=λb ps q=>⟨#[],by rw[ah (aQ q hn),q];simp⟩
def Un.write (mu:Jl (H x))(he:e=x\/H e=some (.own x))(k:∀ b u,b≠e->h.get? b=some u->h'.get? b=some u) (heo:∃ u,h'.get? e=some u):Un fs ex H (upd H x o) h h':=by
 have hx:∀ b,H b=none->b≠x:=λb n z=>by subst z;rw[n] at mu;exact mu
 have hb:∀ b,H b=none->b≠e:=λb n z=>by
  subst z;rcases he with r|r
  ·exact hx b n r
  ·rw[n] at r;cases r
 have hm:∀ b u,H b=some u->¬ Jl (some u)->b≠x:=λb u q nm z=>by subst z;rw[q] at mu;exact nm mu
 refine ⟨λb u q n _ _=>k b u (hb b n) q,λb u q n _ _=>⟨u.slots,k b u (hb b n) q⟩,λb u q n _=>by rw[ah (hx b n)];exact n,λb u q _=>?_,
  λb xs q=>by rw[ah (hm b _ q λz=>z)];exact q,λb u xs q=>by rw[ah (hm b _ q λz=>z)];exact q,λb ps q=>⟨#[],by rw[ah (hm b _ q λz=>z),q];simp⟩⟩
 by_cases hbe:b=e
 ·subst hbe;exact heo
 ·exact ⟨u,k b u hbe q⟩
end
abbrev EJ (h:Heap)(H:Hp):List Addr:=(List.range h.objs.size).filter λa=>(H a).isSome
abbrev pM (h:Heap)(H:Hp):Heap:=W.hideAll h (EJ h H)
def xF (h:Heap)(H:Hp):(pM h H).objs.size=h.objs.size:=W.hideAll_size _ _
def AE {o:Obj}(e:h.get? b=some o)(n:H b=none):(pM h H).get? b=some o:=
 W.hideAll_get _ e λhm=>by
  have q:(H b).isSome=true:=(List.mem_filter.mp hm).2;rw[n] at q;simp at q
def BU {o:Obj}(e:(pM h H).get? b=some o):h.get? b=some o/\H b=none:=by
 have e':h.get? b=some o:=W.of_hideAll (EJ h H) e;refine ⟨e',?_⟩;cases q:H b with
 |none=>rfl
 |some x=>
  have hm:b ∈ EJ h H:=List.mem_filter.mpr ⟨mem_range.mpr (ut e'),by simp[q]⟩;have z:(pM h H).get? b=none:=W.hideAll_none (EJ h H) hm;rw[z] at e;cases e
structure Mod (K:W.Frag) (mg:NF) (base:Heap):Prop where
 kin:K.In base
 glob:base.Ns mainGlobals mg
 blt:∃ mb,base.Ns builtinsNs mb/\∀ x:Str,x≠"__name__"->mb x=bootBuiltins x
 nolimit:base.NoLimit
/-- the context:a def's body (or a comprehension's block) running. base:fixed through the whole law;s₀,H₀:the entry;outer:the frames whose slots others may change (a def's callers);stack:all frames that run;
  ex:iterators that were made ahead of the entry and are walked here (a comprehension's);fn:the names whose cells were made at the entry (a def:all;a comprehension's block:its own);calm:not within an except bP;pn:Y that every state bears;xe:what is wanted of an exception that leaves the code -/
structure Cx where
 prog:Program
 w:World
 K:W.Frag
 mg:Str->Option Value
 base:Heap
 A:Around
 N:List Str
 s₀:Shared
 H₀:Hp
 env:Env
 outer:List Env
 stack:List Env
 ex:List Addr
 fn:Str->Bool
 calm:Bool
 pn:List (Addr×Obj)
 xe:Value->Shared->Prop
abbrev pD (l:List Env):List Addr:=l.filterMap (·.frame)
noncomputable abbrev Cx.fs (X:Cx):List Addr:=pD X.outer
abbrev JW (sc:Scope)(x:Str):Prop:=sc.names.lookup x=some .local\/sc.names.lookup x=some .cell\/sc.names.lookup x=some .free
abbrev Loc (sc:Scope)(x:Str):Prop:=sc.names.lookup x=some .local\/sc.names.lookup x=some .cell
abbrev Look (env:Env)(h:Heap)(m:NF)(x:Str)(u:Value):Prop:=
 (env.kindOf x=some .local/\m x=some u)\/((env.kindOf x=some .cell\/env.kindOf x=some .free)/\∃ c,env.cells.lookup x=some c/\h.IsCell c (some u))
structure Cx.Ok (X:Cx):Prop where
 mod:Mod X.K X.mg X.base
 kind:X.env.scope.kind=.function
 glob:X.env.globals=mainGlobals
 blt:X.env.builtins=builtinsNs
 above:X.s₀.heap.objs.size<=X.env.locals
 inj:∀ x y c,X.env.cells.lookup x=some c->X.env.cells.lookup y=some c->x=y
 has:∀ x,(X.env.kindOf x=some .cell\/X.env.kindOf x=some .free)->∃ c,X.env.cells.lookup x=some c
 cab:∀ x c,X.fn x=true->X.env.cells.lookup x=some c->X.s₀.heap.objs.size<=c
 hd:X.calm=true->X.A.handled=none
 frames:X.A.frames=some X.stack
 stk:X.stack=X.outer\/(X.stack=X.env::X.outer/\X.env.frame=some X.env.locals)
 exf:∀ b ∈ X.ex,b≠X.env.locals/\∀ x c,X.env.cells.lookup x=some c->c≠b
 bs:∀ b o,X.base.get? b=some o->X.s₀.heap.get? b=some o/\X.H₀ b=none
 bsz:X.base.objs.size<=X.s₀.heap.objs.size
 noex:∀ b o,X.base.get? b=some o->b ∉ X.ex
 exfs:∀ b ∈ X.ex,b ∉ X.fs
 j6:X.s₀.heap.FunFrames X.base X.outer
 frf:∀ b ∈ X.fs,X.H₀ b=none
structure Inv (X:Cx) (Y:ND) (U:List (Option V)) (H:Hp) (s:Shared):Prop where
 ok:X.Ok
 os:s.os=X.s₀.os
 bare:AllBare s.gens
 base:Un X.fs X.ex X.H₀ H X.s₀.heap s.heap
 loc:∃ m,s.heap.Ns X.env.locals m/\∀ (i:Nat) (x:Str) (v:V),X.N[i]? =some x->U[i]? =some (some v)->JW X.env.scope x->∃ u,RelV v u/\Look X.env s.heap m x u
 cell:∀ x c,X.env.cells.lookup x=some c->∃ v,s.heap.IsCell c v
 free:H X.env.locals=none
 freeC:∀ x c,X.env.cells.lookup x=some c->H c=none
 pin:∀ p ∈ X.pn++Y,s.heap.get? p.1=some p.2/\H p.1=none/\p.1≠X.env.locals/\p.1 ∉ X.fs/\∀ v,p.2.data≠.cell v
 hok:gq X.prog X.w H s.heap
 len:U.length=X.N.length
variable {x:Str}{g':Array GenState}{ch:List Addr}{i:Nat}{M:Model}{A:Around}{E:NC}{v:V}
section
variable {X:Cx}{Y:ND}{U:List (Option V)}{H H':Hp}{s:Shared}{h':Heap}
def Cx.Ok.LJ (ok:X.Ok){o:Obj}(e:X.base.get? b=some o):b ∉ X.fs:=λhb=>by
 have:=(ok.j6.mem hb).1;rw[e] at this;cases this
def Inv.bs (I:Inv X Y U H s):∀ b o,X.base.get? b=some o->s.heap.get? b=some o/\H b=none:=λb o e=>
 ⟨I.base.keep b o (I.ok.bs b o e).1 (I.ok.bs b o e).2 (I.ok.LJ e) (I.ok.noex b o e),I.base.free b o (I.ok.bs b o e).1 (I.ok.bs b o e).2 (I.ok.noex b o e)⟩
def Inv.bk (I:Inv X Y U H s):∀ b o,X.base.get? b=some o->s.heap.get? b=some o:=λb o e=>(I.bs b o e).1
def Inv.mod (I:Inv X Y U H s):Mod X.K X.mg X.base:=I.ok.mod
def Inv.b6 (I:Inv X Y U H s):X.K.In s.heap:=I.ok.mod.kin.keeps I.bk
def Inv.lt (I:Inv X Y U H s):X.env.locals<s.heap.objs.size:=let ⟨_,hn,_⟩:=I.loc;hn.lt
def Inv.sz (I:Inv X Y U H s):X.s₀.heap.objs.size<=s.heap.objs.size:=Nat.le_trans I.ok.above (Nat.le_of_lt I.lt)
def Inv.Li (I:Inv X Y U H s)(h:s.heap.objs.size<=a):a ∉ X.fs:=λhb=>by
 obtain ⟨_,o,ho,_⟩:=I.ok.j6.mem hb;exact absurd (ol (ut ho) (Nat.le_trans I.sz h)) (Nat.lt_irrefl _)
def Inv.Bd (I:Inv X Y U H s):∀ x c,X.env.cells.lookup x=some c->c≠X.env.locals:=λx c e z=>by
 obtain ⟨v,o,ho,hd⟩:=I.cell x c e;obtain ⟨m,⟨o',es,ep,ho',hd',_⟩,_⟩:=I.loc;rw[z,ho'] at ho;cases ho;rw[hd'] at hd;cases hd
def Inv.j6 (I:Inv X Y U H s):s.heap.FunFrames X.base X.outer:=by
 have all:∀ (l:List Env),(∀ b ∈ pD l,b ∈ X.fs)->X.s₀.heap.FunFrames X.base l->s.heap.FunFrames X.base l:=by
  intro l
  induction l with
  |nil=>intro _ _;trivial
  |cons env r ih=>
   intro hs hl;obtain ⟨hk,⟨L,o,hf,hn,ho,hd⟩,hr⟩:=hl;have hL:L ∈ X.fs:=hs L (by unfold pD;rw[filterMap_cons,hf];exact mo);obtain ⟨sl,e⟩:=I.base.slot L o ho (I.ok.frf L hL) hL λz=>I.ok.exfs L z hL
   exact ⟨hk,⟨L,_,hf,hn,e,hd⟩,ih (λb hb=>hs b (by unfold pD;rw[filterMap_cons,hf];exact dL _ hb)) hr⟩
 exact all X.outer (λ_ hb=>hb) I.ok.j6
def Inv.stack (I:Inv X Y U H s):s.heap.FunFrames X.base X.stack:=by
 rcases I.ok.stk with e|⟨e,hf⟩
 ·rw[e];exact I.j6
 ·rw[e];obtain ⟨m,hn,_⟩:=I.loc;refine .cons (by rw[I.ok.kind];decide) hf hn ?_ I.j6;exact Heap.get?_none_of_le (Nat.le_trans I.ok.bsz I.ok.above)
def Inv.iY (I:Inv X Y U H s):∀ b ∈ pD X.stack,b ∈ X.env.locals::X.fs:=λb hb=>by
 rcases I.ok.stk with e|⟨e,hf⟩
 ·rw[e] at hb;exact dL _ hb
 ·rw[e] at hb;unfold pD at hb;rw[filterMap_cons,hf] at hb;exact hb
def Inv.pY (I:Inv X Y U H s):∀ b ∈ pD X.stack,H b=none:=λb hb=>by
 rcases nb.mp (I.iY b hb) with e|hb
 ·rw[e];exact I.free
 ·obtain ⟨_,o,ho,_⟩:=I.ok.j6.mem hb;exact I.base.free b o ho (I.ok.frf b hb) λz=>I.ok.exfs b z hb
def Inv.step {t':Nat}{d':Drawn}(I:Inv X Y U H s)
  (hch:∀ b ∈ ch,(b ∈ X.ex\/X.s₀.heap.objs.size<=b)/\b≠X.env.locals/\(∀ x c,X.env.cells.lookup x=some c->c≠b)/\∀ p ∈ X.pn++Y,p.1≠b)
  (keep:∀ b o,b≠X.env.locals->b ∉ X.fs->b ∉ ch->s.heap.get? b=some o->H b=none->h'.get? b=some o)
  (slot:∀ b o,b≠X.env.locals->b ∈ X.fs->b ∉ ch->s.heap.get? b=some o->H b=none->∃ sl,h'.get? b=some { o with slots:=sl }) (free:∀ b o,b ∉ ch->s.heap.get? b=some o->H b=none->H' b=none)
  (there:∀ b o,b ∉ ch->s.heap.get? b=some o->∃ o',h'.get? b=some o')
  (tups:∀ b xs,H b=some (.tup xs)->H' b=some (.tup xs)) (frzs:∀ b o u,H b=some (.frz o u)->H' b=some (.frz o u)) (tbls:∀ b ps,H b=some (.tbl ps)->∃ more,H' b=some (.tbl (ps++more)))
  (ns:∀ m,s.heap.Ns X.env.locals m->h'.Ns X.env.locals m) (hok:gq X.prog X.w H' h') (hg:AllBare g'):
  Inv X Y U H' { s with heap:=h',gens:=g',drawn:=d',toks:=t' }:=by
 have neL:∀ b o,X.s₀.heap.get? b=some o->b≠X.env.locals:=λb o e=>pi (ol (ut e) I.ok.above)
 have neC:∀ b o,X.s₀.heap.get? b=some o->b ∉ X.ex->b ∉ ch:=λb o e hx hb=>by
  rcases (hch b hb).1 with z|z
  ·exact hx z
  ·exact absurd (ol (ut e) z) (Nat.lt_irrefl _)
 have cellK:∀ x c,X.env.cells.lookup x=some c->∀ v,s.heap.IsCell c v->h'.IsCell c v:=λx c e v ⟨o,ho,hd⟩=>by
  have nch:c ∉ ch:=λz=>(hch c z).2.2.1 x c e rfl
  by_cases hc:c ∈ X.fs
  ·obtain ⟨sl,q⟩:=slot c o (I.Bd x c e) hc nch ho (I.freeC x c e);exact ⟨_,q,hd⟩
  ·exact ⟨o,keep c o (I.Bd x c e) hc nch ho (I.freeC x c e),hd⟩
 refine ⟨I.ok,I.os,hg,⟨λb o e n hb hx=>?_,λb o e n hb hx=>?_,λb o e n hx=>?_,λb o e hx=>?_,λb xs e=>tups b xs (I.base.tups b xs e),λb o xs e=>frzs b o xs (I.base.frzs b o xs e),λb ps e=>?_⟩,?_,λx c e=>?_,?_,λx c e=>?_,λp hp=>?_,hok,I.len⟩
 ·exact keep b o (neL b o e) hb (neC b o e hx) (I.base.keep b o e n hb hx) (I.base.free b o e n hx)
 ·obtain ⟨sl,e1⟩:=I.base.slot b o e n hb hx;obtain ⟨sl',e2⟩:=slot b _ (neL b o e) hb (neC b o e hx) e1 (I.base.free b o e n hx);exact ⟨sl',e2⟩
 ·obtain ⟨o',e1⟩:=I.base.there b o e hx;exact free b o' (neC b o e hx) e1 (I.base.free b o e n hx)
 ·obtain ⟨o',e1⟩:=I.base.there b o e hx;exact there b o' (neC b o e hx) e1
 ·obtain ⟨m1,e1⟩:=I.base.tbls b ps e;obtain ⟨m2,e2⟩:=tbls b _ e1;exact ⟨m1++m2,by rw[e2,Array.append_assoc]⟩
 ·obtain ⟨m,hn,hl⟩:=I.loc;refine ⟨m,ns m hn,λi x v e1 e2 e3=>?_⟩;obtain ⟨u,r,l⟩:=hl i x v e1 e2 e3;refine ⟨u,r,?_⟩;rcases l with l|⟨k,c,e,z⟩
  ·exact .inl l
  ·exact .inr ⟨k,c,e,cellK x c e _ z⟩
 ·obtain ⟨v,z⟩:=I.cell x c e;exact ⟨v,cellK x c e v z⟩
 ·obtain ⟨m,⟨o,_,_,ho,_⟩,_⟩:=I.loc;exact free _ o (λz=>(hch _ z).2.1 rfl) ho I.free
 ·obtain ⟨v,o,ho,hd⟩:=I.cell x c e;exact free c o (λz=>(hch c z).2.2.1 x c e rfl) ho (I.freeC x c e)
 ·obtain ⟨e,n,ne,nf,d⟩:=I.pin p hp;have nch:p.1 ∉ ch:=λz=>(hch p.1 z).2.2.2 p hp rfl
  exact ⟨keep p.1 p.2 ne nf nch e n,free p.1 p.2 nch e n,ne,nf,d⟩
def Inv.un {t':Nat}(I:Inv X Y U H s)(u:Un X.fs [] H H' s.heap h')(hok:gq X.prog X.w H' h'):Inv X Y U H' { s with heap:=h',toks:=t' }:=by
 obtain ⟨m,⟨o,es,ep,ho,r⟩,_⟩:=id I.loc;obtain ⟨sl,hL⟩:=u.any ho I.free (by simp);exact I.step (g':=s.gens) (d':=s.drawn) (ch:=[]) (λ_ z=>nomatch z) (λb o _ hb _ e n=>u.keep b o e n hb (by simp)) (λb o _ hb _ e n=>u.slot b o e n hb (by simp)) (λb o _ e n=>u.free b o e n (by simp)) (λb o _ e=>u.there b o e (by simp)) u.tups u.frzs u.tbls (λm' hm=>by
  obtain ⟨o',es',ep',ho',r'⟩:=hm;rw[ho] at ho';cases ho';exact ⟨_,es',ep',hL,r'⟩) hok I.bare
def Inv.call {t':Nat}{d':Drawn}(I:Inv X Y U H s)(u:Un (pD X.stack) ch H H' s.heap h')(hok:gq X.prog X.w H' h')(hg:AllBare g')
  (hch:∀ b ∈ ch,(b ∈ X.ex\/X.s₀.heap.objs.size<=b)/\b≠X.env.locals/\(∀ x c,X.env.cells.lookup x=some c->c≠b)/\∀ p ∈ X.pn++Y,p.1≠b):
  Inv X Y U H' { s with heap:=h',gens:=g',drawn:=d',toks:=t' }:=by
 obtain ⟨m,⟨o,es,ep,ho,r⟩,_⟩:=id I.loc;obtain ⟨sl,hL⟩:=u.any ho I.free λz=>(hch _ z).2.1 rfl
 exact I.step (ch:=ch) hch (λb o hL hb hc e n=>u.keep b o e n (λz=>(nb.mp (I.iY b z)).elim hL hb) hc) (λb o _ _ hc e n=>u.any e n hc) (λb o hc e n=>u.free b o e n hc) (λb o hc e=>u.there b o e hc) u.tups u.frzs u.tbls (λm' hm=>by
  obtain ⟨o',es',ep',ho',r'⟩:=hm;rw[ho] at ho';cases ho';exact ⟨_,es',ep',hL,r'⟩) hok hg
def Inv.turned {t':Nat}{it:Addr}(I:Inv X Y U H s)(k:∀ b o,b≠it->s.heap.get? b=some o->h'.get? b=some o) (hn:H it=none) (hL:it≠X.env.locals)
  (h1:it ∈ X.ex\/X.s₀.heap.objs.size<=it) (h2:∀ x c,X.env.cells.lookup x=some c->c≠it) (h3:∀ p ∈ X.pn++Y,p.1≠it):Inv X Y U H { s with heap:=h',toks:=t' }:=by
 have nit:∀ b u,H b=some u->b≠it:=λb u e z=>by rw[z,hn] at e;cases e
 refine I.step (g':=s.gens) (d':=s.drawn) (ch:=[it]) (λb hb=>?_) (λb o _ _ hc e _=>k b o (λz=>hc (by simp[z])) e) (λb o _ _ hc e _=>⟨o.slots,k b o (λz=>hc (by simp[z])) e⟩) (λ_ _ _ _ n=>n)
  (λb o hc e=>⟨o,k b o (λz=>hc (by simp[z])) e⟩) (λ_ _ e=>e) (λ_ _ _ e=>e) (λb ps e=>⟨#[],by rw[e];simp⟩) (λm hm=>?_) (λb u e=>?_) I.bare
 ·have e:b=it:=by simpa using hb
  subst e;exact ⟨h1,hL,h2,h3⟩
 ·obtain ⟨o,es,ep,ho,r⟩:=hm;exact ⟨o,es,ep,k _ o (Ne.symm hL) ho,r⟩
 ·refine (I.hok b u e).j3 (λc v hc q=>k c v ?_ q) (λ_ q=>q) λ_ _ q=>q
  rcases hc with z|z
  ·rw[z];exact nit b u e
  ·exact nit c _ z
def Inv.tok (I:Inv X Y U H s)(t:Nat):Inv X Y U H { s with toks:=t }:=I.un (h':=s.heap) (t':=t) Un.refl I.hok
def Inv.kept {t':Nat}(I:Inv X Y U H s)(k:∀ b u,s.heap.get? b=some u->h'.get? b=some u):Inv X Y U H { s with heap:=h',toks:=t' }:=I.un (Un.kept k) (I.hok.kept k)
def Inv.laid {t':Nat}(I:Inv X Y U H s)(k:∀ b u,s.heap.get? b=some u->h'.get? b=some u) (hp:s.heap.objs.size<=a) (new:aL X.prog X.w (upd H a o) h' a o):
  Inv X Y U (upd H a o) { s with heap:=h',toks:=t' }:=I.un (Un.laid k hp (I.hok.fresh hp)) (I.hok.laid k hp new)
def Inv.write {x e:Addr}{t':Nat}(I:Inv X Y U H s)(mu:Jl (H x))(he:e=x\/H e=some (.own x))(k:∀ b u,b≠e->s.heap.get? b=some u->h'.get? b=some u) (heo:∃ u,h'.get? e=some u)
  (new:aL X.prog X.w (upd H x o) h' x o):Inv X Y U (upd H x o) { s with heap:=h',toks:=t' }:=I.un (Un.write mu he k heo) (I.hok.write mu he k heo new)
def Inv.n8 {pins':ND}(I:Inv X Y U H s)(h:∀ p ∈ pins',s.heap.get? p.1=some p.2/\H p.1=none/\p.1≠X.env.locals/\p.1 ∉ X.fs/\∀ v,p.2.data≠.cell v):Inv X pins' U H s:=
 ⟨I.ok,I.os,I.bare,I.base,I.loc,I.cell,I.free,I.freeC,λp hp=>(mem_append.mp hp).elim (λz=>I.pin p (mem_append_left _ z)) (h p),I.hok,I.len⟩
def k3 {N:List Str}(hN:N.Nodup){j:Nat}(a:N[i]? =some x)(b:N[j]? =some x):i=j:=by
 obtain ⟨h1,e1⟩:=tz.mp a;obtain ⟨h2,e2⟩:=tz.mp b;exact (List.getElem_inj hN).mp (e1.trans e2.symm)
variable {Q:NB}
def nj (I:Inv X Y U H s)(hN:X.N.Nodup)(hi:X.N[i]? =some x)(hx:Loc X.env.scope x)(r:RelV v u)
  (h:∀ s',Inv X Y (U.set i (some v)) H s'->(∃ a,Heap.SameBut a s.heap s'.heap/\(a=X.env.locals\/X.env.cells.lookup x=some a))->Q () s') (hf:X.fn x=true\/X.env.scope.names.lookup x=some .local:=by first|exact .inl rfl|exact .inr rfl|assumption):wpAny M A (storeName X.env x u) Q E s:=by
 obtain ⟨m,hn,hl⟩:=id I.loc;have hcls:(X.env.scope.kind ==.class||(X.env.scope.kind ==.module&&X.env.locals != X.env.globals))=false:=by rw[I.ok.kind];rfl
 have hiσ:i<U.length:=by rw[I.len];exact (tz.mp hi).1
 have Bd:=I.Bd;have tracked:∀ {a:Addr}{h':Heap},(∃ o,s.heap.get? a=some o/\H a=none)->Heap.SameBut a s.heap h'->gq X.prog X.w H h':=λ{a h'} ha hs b ob e=>by
  obtain ⟨_,_,hfree⟩:=ha;refine (I.hok b ob e).j3 (λc w' hc q=>(hs.2 c ?_).trans q) (λ_ q=>q) λ_ _ q=>q
  rintro rfl;rcases hc with rfl|hc
  ·rw[hfree] at e;cases e
  ·rw[hfree] at hc;cases hc
 rcases hx with hk|hk
 ·refine wpAny_storeName_local hk hn (λh' hn' hs=>?_) hcls;obtain ⟨oL,_,_,hoL,_⟩:=id hn;refine h _ ⟨I.ok,I.os,I.bare,⟨λb o e n hb hx=>?_,λb o e n hb hx=>?_,I.base.free,λb o e hx=>?_,I.base.tups,I.base.frzs,I.base.tbls⟩,⟨_,hn',λj y v' e1 e2 e3=>?_⟩,λy c e=>?_,I.free,I.freeC,λp hp=>?_,tracked ⟨oL,hoL,I.free⟩ hs,by simpa using I.len⟩ ⟨_,hs,.inl rfl⟩
  ·exact (hs.2 b (pi (ol (ut e) I.ok.above))).trans (I.base.keep b o e n hb hx)
  ·obtain ⟨sl,e1⟩:=I.base.slot b o e n hb hx;exact ⟨sl,(hs.2 b (pi (ol (ut e) I.ok.above))).trans e1⟩
  ·obtain ⟨o',e1⟩:=I.base.there b o e hx;exact ⟨o',(hs.2 b (pi (ol (ut e) I.ok.above))).trans e1⟩
  ·by_cases hj:j=i
   ·subst hj;rw[hi] at e1;cases e1;rw[getElem?_set_self hiσ] at e2;cases e2;exact ⟨u,r,.inl ⟨hk,by simp⟩⟩
   ·rw[getElem?_set_ne (Ne.symm hj)] at e2;obtain ⟨u',r',q⟩:=hl j y v' e1 e2 e3;refine ⟨u',r',?_⟩;rcases q with ⟨k,e⟩|⟨k,c,e,z⟩
    ·refine .inl ⟨k,?_⟩;have:y≠x:=λe=>hj (k3 hN e1 (e▸hi))
     simp[this,e]
    ·exact .inr ⟨k,c,e,z.sameBut hs (Bd y c e)⟩
  ·obtain ⟨w',z⟩:=I.cell y c e;exact ⟨w',z.sameBut hs (Bd y c e)⟩
  ·obtain ⟨e,n,ne,nf,d⟩:=I.pin p hp;exact ⟨(hs.2 p.1 ne).trans e,n,ne,nf,d⟩
 ·have hfn:X.fn x=true:=by
   rcases hf with z|z
   ·exact z
   ·rw[z] at hk;cases hk
  obtain ⟨c,hc⟩:=I.ok.has x (.inl hk);obtain ⟨w',z⟩:=I.cell x c hc;refine wpAny_storeName_cell I.ok.kind hk hc z (λh' hc' hs=>?_);obtain ⟨oc,hoc,hocd⟩:=id z;refine h { s with heap:=h' } ⟨I.ok,I.os,I.bare,⟨λb o e n hb hx=>?_,λb o e n hb hx=>?_,I.base.free,λb o e hx=>?_,I.base.tups,I.base.frzs,I.base.tbls⟩,⟨m,hn.sameBut hs (Ne.symm (Bd x c hc)),λj y v' e1 e2 e3=>?_⟩,λy c' e=>?_,I.free,I.freeC,λp hp=>?_,tracked ⟨oc,hoc,I.freeC x c hc⟩ hs,by simpa using I.len⟩ ⟨c,hs,.inr hc⟩
  ·exact (hs.2 b (pi (ol (ut e) (I.ok.cab x c hfn hc)))).trans (I.base.keep b o e n hb hx)
  ·obtain ⟨sl,e1⟩:=I.base.slot b o e n hb hx;exact ⟨sl,(hs.2 b (pi (ol (ut e) (I.ok.cab x c hfn hc)))).trans e1⟩
  ·obtain ⟨o',e1⟩:=I.base.there b o e hx;exact ⟨o',(hs.2 b (pi (ol (ut e) (I.ok.cab x c hfn hc)))).trans e1⟩
  ·by_cases hj:j=i
   ·subst hj;rw[hi] at e1;cases e1;rw[getElem?_set_self hiσ] at e2;cases e2;exact ⟨u,r,.inr ⟨.inl hk,c,hc,hc'⟩⟩
   ·rw[getElem?_set_ne (Ne.symm hj)] at e2;obtain ⟨u',r',q⟩:=hl j y v' e1 e2 e3;refine ⟨u',r',?_⟩;rcases q with q|⟨k,c',e,z'⟩
    ·exact .inl q
    ·refine .inr ⟨k,c',e,z'.sameBut hs ?_⟩;rintro rfl;exact hj (k3 hN e1 (I.ok.inj _ _ _ e hc▸hi))
  ·by_cases hcc:c'=c
   ·subst hcc;exact ⟨_,hc'⟩
   ·obtain ⟨w2,z2⟩:=I.cell y c' e;exact ⟨w2,z2.sameBut hs hcc⟩
  ·obtain ⟨e,n,ne,nf,d⟩:=I.pin p hp;refine ⟨(hs.2 p.1 ?_).trans e,n,ne,nf,d⟩;intro q;rw[q,hoc] at e;have q':oc=p.2:=Option.some.inj e;exact d w' (by rw[<-q'];exact hocd)
def bw (I:Inv X Y U H s)(hN:X.N.Nodup)(hi:X.N[i]? =some x)(hx:Loc X.env.scope x)(r:RelV v u)
  (h:∀ s',Inv X Y (U.set i (some v)) H s'->Q () s') (hf:X.fn x=true\/X.env.scope.names.lookup x=some .local:=by first|exact .inl rfl|exact .inr rfl|assumption):wpAny M A (storeName X.env x u) Q E s:=
 nj I hN hi hx r (λs' I' _=>h s' I') hf
def Inv.zS {s':Shared}(I:Inv X Y U H s)(ho:s'.os=s.os)(u:Un (pD X.stack) ch H H' s.heap s'.heap)(hok:gq X.prog X.w H' s'.heap)(hg:AllBare s'.gens)
  (hch:∀ b ∈ ch,(b ∈ X.ex\/X.s₀.heap.objs.size<=b)/\b≠X.env.locals/\(∀ x c,X.env.cells.lookup x=some c->c≠b)/\∀ p ∈ X.pn++Y,p.1≠b):Inv X Y U H' s':=by
 obtain ⟨h',g',d',t',o'⟩:=s';have e:o'=s.os:=ho;subst e;exact I.call (g':=g') (t':=t') (d':=d') u hok hg hch
end
@[reducible]def XK:=Addr->Hp->Prop
@[reducible]def St:=List (Option V)
@[reducible]def VK:=V->Hp->Prop
@[reducible]def TE:=St->Hp->VK->Prop
@[reducible]def TT:=St->Hp->(Bool->Hp->Prop)->Prop
@[reducible]def TA:=St->Hp->(List V->Hp->Prop)->Prop
structure Ends where
 nx:St->Hp->Prop
 rt:VK
 bk:St->Hp->Prop:=λ_ _=>False
 ct:St->Hp->Prop:=λ_ _=>False
@[reducible]def TS:=Ends->St->Hp->Prop
abbrev EP (X:Cx)(Y:ND)(U:St)(Q:VK)(u:Value)(s':Shared):Prop:=∃ v H',Inv X Y U H' s'/\RelV v u/\Q v H'
abbrev TP (X:Cx)(Y:ND)(U:St)(Q:Bool->Hp->Prop)(b:Bool)(s':Shared):Prop:=∃ H',Inv X Y U H' s'/\Q b H'
abbrev AP (X:Cx)(Y:ND)(U:St)(Q:List V->Hp->Prop)(us:List Value)(s':Shared):Prop:=∃ vs H',Inv X Y U H' s'/\Vals vs us/\Q vs H'
abbrev SP (X:Cx)(Y:ND)(D:Ends)(f:Flow)(s':Shared):Prop:=
 match f with
 | .next=>∃ σ' H',Inv X Y σ' H' s'/\D.nx σ' H'
 | .brk=>∃ σ' H',Inv X Y σ' H' s'/\D.bk σ' H'
 | .cont=>∃ σ' H',Inv X Y σ' H' s'/\D.ct σ' H'
 | .ret u=>∃ v σ' H',Inv X Y σ' H' s'/\RelV v u/\D.rt v H'
abbrev PE (X:Cx)(e:Expr)(t:TE):Prop:=
 ∀ (Y:ND) (s:Shared) (U:St) (H:Hp) (Q:VK),Inv X Y U H s->t U H Q->wpAny (model X.prog X.w) X.A (eval e X.env) (EP X Y U Q) X.xe s
abbrev PT (X:Cx)(e:Expr)(t:TT):Prop:=
 ∀ (Y:ND) (s:Shared) (U:St) (H:Hp) (Q:Bool->Hp->Prop),Inv X Y U H s->t U H Q->wpAny (model X.prog X.w) X.A (isTrue e X.env (eval e X.env)) (TP X Y U Q) X.xe s
abbrev PW (X:Cx)(e:Expr)(t:TT):Prop:=
 ∀ (whole:Sem Value) (Y:ND) (s:Shared) (U:St) (H:Hp) (Q:Bool->Hp->Prop),Inv X Y U H s->t U H Q->wpAny (model X.prog X.w) X.A (isTrue e X.env whole) (TP X Y U Q) X.xe s
variable {e:Expr}
def PW.pt {X:Cx}{t:TT}(h:PW X e t):PT X e t:=h _
abbrev PA (X:Cx)(es:List Expr)(t:TA):Prop:=
 ∀ (pos:Pos) (Y:ND) (s:Shared) (U:St) (H:Hp) (Q:List V->Hp->Prop),Inv X Y U H s->t U H Q->wpAny (model X.prog X.w) X.A (spliced (backTo pos (bm es X.env))) (AP X Y U Q) X.xe s
abbrev PS (X:Cx)(st:Stmt)(t:TS):Prop:=
 ∀ (Y:ND) (s:Shared) (U:St) (H:Hp) (D:Ends),Inv X Y U H s->t D U H->wpAny (model X.prog X.w) X.A (exec st X.env) (SP X Y D) X.xe s
abbrev BX (X:Cx)(st:List Stmt)(t:TS):Prop:=
 ∀ (Y:ND) (s:Shared) (U:St) (H:Hp) (D:Ends),Inv X Y U H s->t D U H->wpAny (model X.prog X.w) X.A (execs st X.env) (SP X Y D) X.xe s
variable {s:Shared}
def aC {α:Type}{t:Sem α}{Q Q':α->Shared->Prop}(h:wpAny M A t Q E s)(hQ:∀ a s,Q a s->Q' a s):wpAny M A t Q' E s:=wpAny_mono h hQ λ_ _ x=>x
variable {Q:NC}{Y:ND}{U:St}{c:Expr}
section
variable {X:Cx}
abbrev LW (i:Nat):TE:=λU H Q=>∃ v,U[i]? =some (some v)/\Q v H
abbrev tC (v:V):TE:=λ_ H Q=>Q v H
def Gn {pos:Pos}(hN:X.N[i]? =some x)(hv:JW X.env.scope x)(hd:(x ==("__debug__":Str))=false:=by decide) (hcd:(x ==("__classdict__":Str))=false:=by decide):PE X (.Name x pos) (LW i):=by
 intro Y s U H Q I h;obtain ⟨v,e,h⟩:=h;obtain ⟨m,hn,hl⟩:=I.loc;obtain ⟨u,r,l⟩:=hl i x v hN e hv;have fin:EP X Y U Q u s:=⟨v,H,I,r,h⟩;rcases l with ⟨hk,hm⟩|⟨hk,c,hc,hcell⟩
 ·exact wpAny_Name (wpAny_loadName_local I.ok.kind hk hn hm fin) hd
 ·rcases hk with hk|hk
  ·exact wpAny_Name (wpAny_loadName_cell I.ok.kind hk hc hcell fin) hd
  ·exact wpAny_Name (wpAny_loadName_free I.ok.kind hk hc hcell fin hcd) hd
def FX {i j pos}:PE X (.Constant (.int i) j pos) (tC (.int i)):=λ_ _ _ H _ I h=>wpAny_Constant_int ⟨.int i,H,I.tok _,⟨_,rfl⟩,h⟩
def Jn {b j pos}:PE X (.Constant (.bool b) j pos) (tC (.bl b)):=λ_ _ _ H _ I h=>Constant_bool ⟨.bl b,H,I,rfl,h⟩
def GO {j pos}:PE X (.Constant .none j pos) (tC .non):=λ_ _ _ H _ I h=>Constant_none ⟨.non,H,I,rfl,h⟩
def yl {x j pos}:PE X (.Constant (.str x) j pos) (tC (.str x)):=λ_ _ _ H _ I h=>Calls.Constant_str ⟨.str x,H,I.tok _,⟨_,rfl⟩,h⟩
abbrev Gl (X:Cx)(x:Str):Prop:=X.env.kindOf x=some .globalImplicit
def bN {pos:Pos}(I:Inv X Y U H s)(hg:Gl X x)(hm:X.mg x=some u)(h:Q u s)
  (hd:(x ==("__debug__":Str))=false:=by decide):wpAny (model X.prog X.w) X.A (eval (.Name x pos) X.env) Q E s:=
 Calls.Name_function_global I.ok.kind hg (Calls.loadGlobal_global (by rw[I.ok.glob];exact I.mod.glob.keeps I.bk) hm h) hd
def cS {pos:Pos}(I:Inv X Y U H s)(hg:Gl X x)(hm:X.mg x=none)(hv:bootBuiltins x=some u)(h:Q u s)
  (hn:x≠"__name__":=by decide) (hd:(x ==("__debug__":Str))=false:=by decide):wpAny (model X.prog X.w) X.A (eval (.Name x pos) X.env) Q E s:=by
 obtain ⟨mb,h1,h2⟩:=I.mod.blt;exact Calls.Name_function_global I.ok.kind hg (Calls.loadGlobal_builtin (by rw[I.ok.glob];exact I.mod.glob.keeps I.bk) hm (by rw[I.ok.blt];exact h1.keeps I.bk) ((h2 x hn).trans hv) h) hd
def uZ {pos:Pos}(hg:Gl X x)(hm:X.mg x=some u)(r:RelV v u)(hd:(x ==("__debug__":Str))=false:=by decide):PE X (.Name x pos) (tC v):=
 λ_ _ _ H _ I h=>bN I hg hm ⟨v,H,I,r,h⟩ hd
def C7 {pos:Pos}(hg:Gl X x)(hm:X.mg x=none)(hv:bootBuiltins x=some u)(r:RelV v u)(hn:x≠"__name__":=by decide) (hd:(x ==("__debug__":Str))=false:=by decide):PE X (.Name x pos) (tC v):=
 λ_ _ _ H _ I h=>cS I hg hm hv ⟨v,H,I,r,h⟩ hn hd
variable {a b:Expr}{ta tb:TE}{pos:Pos}
variable {tA tB':TT}{rest:List Expr}
abbrev Lj (t u:TT):TT:=λU H Q=>t U H λc H1=>if c=true then u U H1 Q else Q false H1
abbrev M5 (t u:TT):TT:=λU H Q=>t U H λc H1=>if c=true then Q true H1 else u U H1 Q
abbrev Lh (t:TT):TT:=λU H Q=>t U H λc H1=>Q (!c) H1
def CV (ha:PT X a tA):PW X (.BoolOp .And [a] pos) tA:=by
 intro wh Y s U H Q I h;refine isTrue_and (aC (ha Y s U H Q I h) λc s1 e=>?_);cases c with
 |true=>exact isTrue_and_nil e
 |false=>exact e
def G3 (ha:PT X a tA):PW X (.BoolOp .Or [a] pos) tA:=by
 intro wh Y s U H Q I h;refine isTrue_or (aC (ha Y s U H Q I h) λc s1 e=>?_);cases c with
 |false=>exact isTrue_or_nil e
 |true=>exact e
def FA (ha:PT X a tA)(hb:PW X (.BoolOp .And (b::rest) pos) tB'):PW X (.BoolOp .And (a::b::rest) pos) (Lj tA tB'):=by
 intro wh Y s U H Q I h;refine isTrue_and (aC (ha Y s U H _ I h) λc s1 ⟨H1,I1,q1⟩=>?_);cases c with
 |true=>exact hb wh Y s1 U H1 Q I1 q1
 |false=>exact ⟨H1,I1,q1⟩
def J4 (ha:PT X a tA)(hb:PW X (.BoolOp .Or (b::rest) pos) tB'):PW X (.BoolOp .Or (a::b::rest) pos) (M5 tA tB'):=by
 intro wh Y s U H Q I h;refine isTrue_or (aC (ha Y s U H _ I h) λc s1 ⟨H1,I1,q1⟩=>?_);cases c with
 |true=>exact ⟨H1,I1,q1⟩
 |false=>exact hb wh Y s1 U H1 Q I1 q1
def HN (ha:PT X a tA):PT X (.UnaryOp .Not a pos) (Lh tA):=by
 intro Y s U H Q I h;exact isTrue_not (ha Y s U H (λc H1=>Q (!c) H1) I h)
abbrev JT (ta tb:TE):TE:=λU H Q=>ta U H λx H1=>∃ c,x=.bl c/\if c=true then tb U H1 Q else Q (.bl false) H1
abbrev Md (ta tb:TE):TE:=λU H Q=>ta U H λx H1=>∃ c,x=.bl c/\if c=true then Q (.bl true) H1 else tb U H1 Q
abbrev JD (ta:TE):TE:=λU H Q=>ta U H λx H1=>∃ c,x=.bl c/\Q (.bl (!c)) H1
def Au {op}{t:TE}(h:PE X a t):PE X (.BoolOp op [a] pos) t:=λY s U H Q I hw=>BoolOp_one (h Y s U H Q I hw)
def Fy (ha:PE X a ta)(hb:PE X (.BoolOp .And (b::rest) pos) tb):PE X (.BoolOp .And (a::b::rest) pos) (JT ta tb):=by
 intro Y s U H Q I h;refine BoolOp_and (aC (ha Y s U H _ I h) λv s1 ⟨x,H1,I1,r1,q1⟩=>?_);obtain ⟨c,rfl,q1⟩:=q1;cases r1;refine bi ?_;cases c with
 |true=>exact hb Y s1 U H1 Q I1 q1
 |false=>exact ⟨.bl false,H1,I1,rfl,q1⟩
def Jw (ha:PE X a ta)(hb:PE X (.BoolOp .Or (b::rest) pos) tb):PE X (.BoolOp .Or (a::b::rest) pos) (Md ta tb):=by
 intro Y s U H Q I h;refine BoolOp_or (aC (ha Y s U H _ I h) λv s1 ⟨x,H1,I1,r1,q1⟩=>?_);obtain ⟨c,rfl,q1⟩:=q1;cases r1;refine bi ?_;cases c with
 |false=>exact hb Y s1 U H1 Q I1 q1
 |true=>exact ⟨.bl true,H1,I1,rfl,q1⟩
def F3 (ha:PE X a ta):PE X (.UnaryOp .Not a pos) (JD ta):=by
 intro Y s U H Q I h;refine UnaryOp_ (aC (ha Y s U H _ I h) λv s1 ⟨x,H1,I1,r1,q1⟩=>?_);obtain ⟨c,rfl,q1⟩:=q1;cases r1;exact not_of (bi ⟨.bl (!c),H1,I1,rfl,q1⟩)
abbrev MW (t:TT)(ta tb:TE):TE:=λU H Q=>t U H λc H1=>if c=true then ta U H1 Q else tb U H1 Q
def Ae (hc:PT X c tA)(ha:PE X a ta)(hb:PE X b tb):PE X (.IfExp c a b pos) (MW tA ta tb):=by
 intro Y s U H Q I h;refine wpAny_IfExp (aC (hc Y s U H _ I h) λd s1 ⟨H1,I1,q1⟩=>?_);cases d with
 |true=>exact ha Y s1 U H1 Q I1 q1
 |false=>exact hb Y s1 U H1 Q I1 q1
end
abbrev aR (K:W.Frag)(H:Hp)(a:Addr)(xs:List V):Prop:=
 Rd H a (.lst xs)\/
  ∃ (o:Obj) (its:Array Value) (n:Nat),K.lookup a=some o/\o.cls=.type "list"/\o.dict=none/\o.data=.seq its n/\its.size<=bn/\Vals xs its.toList
abbrev aX (K:W.Frag)(H:Hp)(a:Addr)(xs:List V):Prop:=
 Rd H a (.tup xs)\/
  ∃ (o:Obj) (its:Array Value) (n:Nat),K.lookup a=some o/\o.cls=.type "tuple"/\o.data=.seq its n/\its.size<=bn/\Vals xs its.toList
abbrev Ls:Value->Option V
 | .none=>some .non
 | .bool b=>some (.bl b)
 | .int i _=>some (.int i)
 | .str x _=>some (.str x)
 | .bytes b _=>some (.byt b)
 | .float b _=>some (.flt b)
 | .ref a=>some (.ref a)
 | .type n=>some (.ty n)
 |_=>none
def RelV.abs {x:V}(r:RelV x u):Ls u=some x:=by
 cases x with
 |non=>cases r;rfl
 |bl _=>cases r;rfl
 |int _=>obtain ⟨t,rfl⟩:=r;rfl
 |str _=>obtain ⟨t,rfl⟩:=r;rfl
 |byt _=>obtain ⟨t,rfl⟩:=r;rfl
 |flt _=>obtain ⟨t,rfl⟩:=r;rfl
 |ref _=>cases r;rfl
 |ty _=>cases r;rfl
def RelV.inj {x y:V}(r:RelV x u)(q:RelV y u):x=y:=Option.some.inj (r.abs.symm.trans q.abs)
def Vals.inj:∀ {xs ys:List V}{us:List Value},Vals xs us->Vals ys us->xs=ys
 |_,_,_,.nil,.nil=>rfl
 |_,_,_,.cons r t,.cons r' t'=>by rw[r.inj r',Vals.inj t t']
section
variable {X:Cx}{Y:ND}{U:St}{H:Hp}{s:Shared}{a:Addr}{xs ys:List V}
def aR.of {K:W.Frag}(h:H a=some (.lst xs)):aR K H a xs:=.inl (.inl h)
def aX.of {K:W.Frag}(h:H a=some (.tup xs)):aX K H a xs:=.inl (.inl h)
def Inv.list (I:Inv X Y U H s)(h:aR X.K H a xs):∃ its:List Value,Vals xs its/\PlainL s.heap a its.toArray/\xs.length<=bn:=by
 rcases h with h|⟨o,its,n,hk,hc,hd,hs,hz,r⟩
 ·obtain ⟨z,its,n,r,e⟩:=h.ok I.hok;exact ⟨its,r,⟨_,n,e,rfl,rfl,rfl⟩,z⟩
 ·refine ⟨its.toList,r,⟨o,n,I.b6 a o hk,hc,hd,by simpa using hs⟩,?_⟩;have e:=r.length;simp only[Array.length_toList] at e
  omega
def Inv.tuple (I:Inv X Y U H s)(h:aX X.K H a xs):∃ its:List Value,Vals xs its/\IsTup s.heap a its.toArray/\xs.length<=bn:=by
 rcases h with h|⟨o,its,n,hk,hc,hs,hz,r⟩
 ·obtain ⟨z,its,r,p⟩:=h.ok I.hok;exact ⟨its,r,p,z⟩
 ·refine ⟨its.toList,r,⟨o,I.b6 a o hk,hc,n,by simpa using hs⟩,?_⟩;have e:=r.length;simp only[Array.length_toList] at e
  omega
def Inv.kQ (I:Inv X Y U H s)(h:aR X.K H a xs)(h':aR X.K H a ys):xs=ys:=by
 obtain ⟨its,r,⟨o,n,e,_,_,d⟩,_⟩:=I.list h;obtain ⟨its',r',⟨o',n',e',_,_,d'⟩,_⟩:=I.list h';rw[e] at e';cases e';rw[d] at d'
 injection d' with d1 _
 have:its=its':=by simpa using congrArg Array.toList d1
 subst this;exact r.inj r'
def Inv.ja (I:Inv X Y U H s)(h:aX X.K H a xs)(h':aX X.K H a ys):xs=ys:=by
 obtain ⟨its,r,⟨o,e,_,n,d⟩,_⟩:=I.tuple h;obtain ⟨its',r',⟨o',e',_,n',d'⟩,_⟩:=I.tuple h';rw[e] at e';cases e';rw[d] at d'
 injection d' with d1 _
 have:its=its':=by simpa using congrArg Array.toList d1
 subst this;exact r.inj r'
end
section
variable {X:Cx}{Y:ND}{U:St}{H:Hp}{s:Shared}{E:NC}
end
section
variable {X:Cx}{st:Stmt}{rest:List Stmt}{t u:TS}{e:Expr}{te:TE}{pos:Pos}
abbrev Je:TS:=λD U H=>D.nx U H
abbrev L7 (t u:TS):TS:=λD U H=>t { D with nx:=u D } U H
def BY:BX X [] Je:=λ_ _ U H _ I h=>wpAny_execs_nil ⟨U,H,I,h⟩
def AF (h1:PS X st t)(h2:BX X rest u):BX X (st::rest) (L7 t u):=by
 intro Y s U H D I h;refine wpAny_execs_cons (aC (h1 Y s U H { D with nx:=u D } I h) λf s1 q=>?_);cases f with
 |next=>
  obtain ⟨σ',H',I',q⟩:=q;exact h2 Y s1 σ' H' D I' q
 |ret v=>exact q
 |brk=>exact q
 |cont=>exact q
def Inv.quiet (I:Inv X Y U H s):interactive X.env=false:=by simp[interactive,I.ok.kind]
abbrev Kh (te:TE):TS:=λD U H=>te U H λ_ H1=>D.nx U H1
def Ce (he:PE X e te)(hs:swapsWith e none pos.line X.env=pure false:=by rfl):PS X (.Expr e pos) (Kh te):=by
 intro Y s U H D I h;exact wpAny_Expr_any (aC (he Y s U H _ I h) λv s1 ⟨x,H1,I1,r1,q1⟩=>⟨U,H1,I1,q1⟩) I.quiet hs
abbrev Me (te:TE):TS:=λD U H=>te U H D.rt
def FG (he:PE X e te):PS X (.Return (some e) pos) (Me te):=by
 intro Y s U H D I h;exact wpAny_Return_some (aC (he Y s U H _ I h) λv s1 ⟨x,H1,I1,r1,q1⟩=>⟨x,U,H1,I1,r1,q1⟩)
abbrev K6 (c:TT)(t u:TS):TS:=λD U H=>c U H λb H1=>if b=true then t D U H1 else u D U H1
def IT {a b:List Stmt}{tc:TT}(hc:PT X c tc)(ha:BX X a t)(hb:BX X b u):PS X (.If c a b pos) (K6 tc t u):=by
 intro Y s U H D I h;refine wpAny_If (aC (hc Y s U H _ I h) λd s1 ⟨H1,I1,q1⟩=>?_);cases d with
 |true=>exact ha Y s1 U H1 D I1 q1
 |false=>exact hb Y s1 U H1 D I1 q1
end
@[reducible]def TG:=V->St->Hp->(St->Hp->Prop)->Prop
@[reducible]def BI:=List V->St->Hp->(St->Hp->Prop)->Prop
abbrev PG (X:Cx)(target:Expr)(t:TG):Prop:=
 ∀ (Y:ND) (s:Shared) (U:St) (H:Hp) (v:V) (u:Value) (Q:St->Hp->Prop),Inv X Y U H s->RelV v u->t v U H Q->
  wpAny (model X.prog X.w) X.A (assign target X.env u) (λ_ s'=>∃ σ' H',Inv X Y σ' H' s'/\Q σ' H') X.xe s
abbrev Fo (X:Cx)(ts:List Expr)(t:BI):Prop:=
 ∀ (Y:ND) (s:Shared) (U:St) (H:Hp) (vs:List V) (us:List Value) (Q:St->Hp->Prop),Inv X Y U H s->Vals vs us->t vs U H Q->
  wpAny (model X.prog X.w) X.A (assignInOrder ((assignEach ts X.env).map (·.2)) us) (λ_ s'=>∃ σ' H',Inv X Y σ' H' s'/\Q σ' H') X.xe s
@[reducible]def xT:=V->V->V->Hp->(Hp->Prop)->Prop
abbrev Dq (X:Cx)(t:xT):Prop:=
 ∀ (Y:ND) (s:Shared) (U:St) (H:Hp) (o i v:V) (ov iv u:Value) (Q:Hp->Prop),Inv X Y U H s->RelV o ov->RelV i iv->RelV v u->t o i v H Q->
  wpAny (model X.prog X.w) X.A (setItem ov iv u) (λ_ s'=>∃ H',Inv X Y U H' s'/\Q H') X.xe s
@[reducible]def HQ:=V->V->Hp->VK->Prop
abbrev JA (X:Cx)(op:Operator)(t:HQ):Prop:=
 ∀ (Y:ND) (s:Shared) (U:St) (H:Hp) (x y:V) (v u:Value) (Q:VK),Inv X Y U H s->RelV x v->RelV y u->t x y H Q->
  wpAny (model X.prog X.w) X.A (inplaceOp op v u) (EP X Y U Q) X.xe s
variable {es:List Expr}{k:Nat}{tg:Expr}{te:TE}{pos':Pos}{op:Operator}
section
variable {X:Cx}{pos:Pos}
abbrev gT (i:Nat):TG:=λv U H Q=>Q (U.set i (some v)) H
def gQ (hN:X.N.Nodup)(hi:X.N[i]? =some x)(hx:Loc X.env.scope x)(hf:X.fn x=true\/X.env.scope.names.lookup x=some .local:=by first|exact .inl rfl|exact .inr rfl|assumption):PG X (.Name x pos) (gT i):=by
 intro Y s U H v u Q I r h;exact wpAny_assign_Name (bw I hN hi hx r (λs' I'=>⟨_,H,I',h⟩) hf)
abbrev LH:BI:=λvs U H Q=>vs=[]/\Q U H
abbrev Js (t:TG)(u:BI):BI:=λvs U H Q=>∃ v r,vs=v::r/\t v U H λσ' H'=>u r σ' H' Q
def om:Fo X [] LH:=by
 intro Y s U H vs us Q I r h;obtain ⟨e,h⟩:=h;subst e;cases r;exact assignInOrder_nil ⟨U,H,I,h⟩
def ik {t:TG}{u:BI}(h1:PG X e t)(h2:Fo X es u)
  (hs:(assignEach (e::es) X.env).map (·.2)=assign e X.env::(assignEach es X.env).map (·.2):=by rfl):Fo X (e::es) (Js t u):=by
 intro Y s U H vs us Q I r h;obtain ⟨v,vr,e1,h⟩:=h;subst e1;cases r with
 |cons r rr=>
  rw[hs];refine assignInOrder_cons (aC (h1 Y s U H _ _ _ I r h) λ_ s1 ⟨σ1,H1,I1,q1⟩=>?_);exact h2 Y s1 σ1 H1 _ _ Q I1 rr q1
abbrev C0 (K:W.Frag)(n:Nat)(t:BI):TG:=λv U H Q=>∃ a xs,v=.ref a/\aX K H a xs/\xs.length=n/\t xs U H Q
def qc {t:BI}{n:Nat}(hc:X.calm=true)(h:Fo X es t)
  (hn:(assignEach es X.env).length=n:=by rfl) (hst:(assignEach es X.env).findIdx? (·.1)=none:=by rfl):PG X (.Tuple es k pos) (C0 X.K n t):=by
 intro Y s U H v u Q I r hw;obtain ⟨a,xs,e1,hq,hl,hw⟩:=hw;subst e1;cases r;obtain ⟨its,rv,ht,hz⟩:=I.tuple hq;refine assign_Tuple_tuple (I.ok.hd hc) ht (by simp[hn,<-hl,rv.length]) hst λh' hx=>?_
 have I1:Inv X Y U H { s with heap:=h' }:=I.kept (t':=s.toks) λb o e=>hx b o (pi (ut e)) e
 exact h Y _ U H xs _ Q I1 (by simpa using rv) hw
abbrev K7 (to ti:TE)(t:xT):TG:=λv U H Q=>to U H λo H1=>ti U H1 λi H2=>t o i v H2 λH3=>Q U H3
def Hk {o i:Expr}{to ti:TE}{t:xT}(ho:PE X o to)(hi:PE X i ti)(hs:Dq X t)
  (ha:∀ v,assign (.Subscript o i pos) X.env v=(do
   let ov <-holding [v] (eval o X.env)
   let iv <-holding [v,ov] (eval i X.env)
   standAt pos
   holding [v,ov,iv] (setItem ov iv v)
   release [v,ov,iv] []):=by intro _;rfl):PG X (.Subscript o i pos) (K7 to ti t):=by
 intro Y s U H v u Q I r h;rw[ha];refine ad (bd (aC (ho Y s U H _ I h) λov s1 ⟨x,H1,I1,r1,q1⟩=>?_));refine ad (bd (aC (hi Y s1 U H1 _ I1 q1) λiv s2 ⟨y,H2,I2,r2,q2⟩=>?_));refine ad (wpAny_standAt (ad (bd (aC (hs Y s2 U H2 x y v ov iv u _ I2 r1 r2 r q2) λ_ s3 ⟨H3,I3,q3⟩=>?_))));exact wpAny_release ⟨U,H3,I3,q3⟩
abbrev Iv (te:TE)(g:TG):TS:=λD U H=>te U H λx H1=>g x U H1 D.nx
def AL {g:TG}(he:PE X e te)(hg:PG X tg g)(hs:swapsWithSole [tg] e pos.line X.env=pure false:=by rfl) (hw:swappedStores [tg] e X.env=pure none:=by rfl)
  (h1:(assignEach [tg] X.env).map (·.2)=[assign tg X.env]:=by rfl):PS X (.Assign [tg] e pos) (Iv te g):=by
 intro Y s U H D I h;refine wpAny_Assign_stores (aC (he Y s U H _ I h) λv s1 ⟨x,H1,I1,r1,q1⟩=>?_) hs hw;rw[h1];exact aC (hg Y s1 U H1 x v _ I1 r1 q1) λ_ s2 q=>q
def A9 (hN:X.N.Nodup)(hi:X.N[i]? =some x)(hx:Loc X.env.scope x)(he:PE X e te)(hs:swapsWith e (some (.Name x pos')) pos.line X.env=pure false:=by rfl) (hf:X.fn x=true\/X.env.scope.names.lookup x=some .local:=by first|exact .inl rfl|exact .inr rfl|assumption):
  PS X (.Assign [.Name x pos'] e pos) (Iv te (gT i)):=by
 intro Y s U H D I h;refine wpAny_Assign_Name (aC (he Y s U H _ I h) λv s1 ⟨y,H1,I1,r1,q1⟩=>?_) hs;exact bw I1 hN hi hx r1 (λs2 I2=>⟨_,H1,I2,q1⟩) hf
abbrev Lz (i:Nat)(te:TE)(ti:HQ):TS:=λD U H=>∃ x,U[i]? =some (some x)/\te U H λy H1=>ti x y H1 λz H2=>D.nx (U.set i (some z)) H2
def Fi {ti:HQ}(hN:X.N.Nodup)(hi:X.N[i]? =some x)(hx:Loc X.env.scope x)(he:PE X e te)(ho:JA X op ti)(hf:X.fn x=true\/X.env.scope.names.lookup x=some .local:=by first|exact .inl rfl|exact .inr rfl|assumption):
  PS X (.AugAssign (.Name x pos') op e pos) (Lz i te ti):=by
 intro Y s U H D I h;obtain ⟨v,e1,h⟩:=h;obtain ⟨m,hn,hl⟩:=I.loc;have FY:JW X.env.scope x:=by rcases hx with k|k;exact .inl k;exact .inr (.inl k)
 obtain ⟨u,r,l⟩:=hl i x v hi e1 FY;refine wpAny_AugAssign_Name ?_;have go:wpAny (model X.prog X.w) X.A (eval e X.env) (λw s₂=>wpAny (model X.prog X.w) X.A (inplaceOp op u w) (λr s₃=>wpAny (model X.prog X.w) X.A (storeName X.env x r) (λ_=>SP X Y D .next) X.xe s₃) X.xe s₂) X.xe s:=by
  refine aC (he Y s U H _ I h) λw s1 ⟨y,H1,I1,r1,q1⟩=>?_
  refine aC (ho Y s1 U H1 v y u w _ I1 r r1 q1) λz s2 ⟨zv,H2,I2,r2,q2⟩=>?_
  exact bw I2 hN hi hx r2 (λs3 I3=>⟨_,H2,I3,q2⟩) hf
 rcases l with ⟨hk,hm⟩|⟨hk,c,hc,hcell⟩
 ·exact wpAny_loadName_local I.ok.kind hk hn hm go
 ·rcases hk with hk|hk
  ·exact wpAny_loadName_cell I.ok.kind hk hc hcell go
  ·rcases hx with k|k
   ·have:X.env.scope.names.lookup x=some .free:=hk;rw[k] at this;cases this
   ·have:X.env.scope.names.lookup x=some .free:=hk;rw[k] at this;cases this
abbrev IG (to ti te:TE)(tget:V->V->Hp->VK->Prop)(tip:HQ)(tset:xT):TS:=λD U H=>to U H λo H1=>ti U H1 λi H2=>tget o i H2 λx H3=>te U H3 λy H4=>tip x y H4 λz H5=>tset o i z H5 λH6=>D.nx U H6
abbrev FF (X:Cx)(t:V->V->Hp->VK->Prop):Prop:=
 ∀ (Y:ND) (s:Shared) (U:St) (H:Hp) (o i:V) (ov iv:Value) (Q:VK),Inv X Y U H s->RelV o ov->RelV i iv->t o i H Q->
  wpAny (model X.prog X.w) X.A (getItem ov iv) (EP X Y U Q) X.xe s
def Df {o i:Expr}{to ti:TE}{tget:V->V->Hp->VK->Prop}{tip:HQ}{tset:xT}{tpos:Pos}(ho:PE X o to)(hi:PE X i ti)(hg:FF X tget)(he:PE X e te)(hp:JA X op tip)(hs:Dq X tset)
  (ha:∀ ov iv new,augStore i ov iv new=(do holding [new,ov,iv] (setItem ov iv new);release [new,ov,iv] [];pure .next):=by intros;rfl):PS X (.AugAssign (.Subscript o i tpos) op e pos) (IG to ti te tget tip tset):=by
 intro Y s U H D I h;refine wpAny_AugAssign_SubscriptAny (aC (ho Y s U H _ I h) λov s1 ⟨x1,H1,I1,r1,q1⟩=>?_) ha;refine aC (hi Y s1 U H1 _ I1 q1) λiv s2 ⟨x2,H2,I2,r2,q2⟩=>?_
 refine aC (hg Y s2 U H2 x1 x2 ov iv _ I2 r1 r2 q2) λold s3 ⟨x3,H3,I3,r3,q3⟩=>?_
 refine aC (he Y s3 U H3 _ I3 q3) λv s4 ⟨x4,H4,I4,r4,q4⟩=>?_
 refine aC (hp Y s4 U H4 x3 x4 old v _ I4 r3 r4 q4) λnew s5 ⟨x5,H5,I5,r5,q5⟩=>?_
 exact aC (hs Y s5 U H5 x1 x2 x5 ov iv new _ I5 r1 r2 r5 q5) λ_ s6 ⟨H6,I6,q6⟩=>⟨U,H6,I6,q6⟩
abbrev Mn (f:Int->Int->Int):HQ:=λx y H Q=>∃ i j,x=.int i/\y=.int j/\Q (.int (f i j)) H
def Fs:JA X .Add (Mn λi j=>i+j):=by
 intro Y s U H x y v u Q I r1 r2 h;obtain ⟨i,j,e1,e2,q⟩:=h;subst e1;subst e2;obtain ⟨t,rfl⟩:=r1;obtain ⟨t',rfl⟩:=r2;exact iadd_int ⟨.int _,H,I.tok _,⟨_,rfl⟩,q⟩
def GJ:JA X .Sub (Mn λi j=>i-j):=by
 intro Y s U H x y v u Q I r1 r2 h;obtain ⟨i,j,e1,e2,q⟩:=h;subst e1;subst e2;obtain ⟨t,rfl⟩:=r1;obtain ⟨t',rfl⟩:=r2;exact isub_int ⟨.int _,H,I.tok _,⟨_,rfl⟩,q⟩
end
variable {body:List Stmt}
section
variable {X:Cx}{pos:Pos}
abbrev Hf (c:TT)(tb:TS):TS:=λD U H=>∃ W:Nat->St->Hp->Prop,(∃ m,W m U H)/\∀ m U H,W m U H->
 c U H λb H1=>if b=true then ∃ N:St->Hp->Prop,(∀ σ' H',N σ' H'->∃ m',m'<m/\W m' σ' H')/\tb { D with nx:=N,ct:=N,bk:=D.nx } U H1 else D.nx U H1
def y8 {tc:TT}{tb:TS}(hp:PassesOwn (model X.prog X.w) X.A X.env X.xe)(hc:PT X c tc)(hb:BX X body tb):PS X (.While c body [] pos) (Hf tc tb):=by
 intro Y s U H D I h;obtain ⟨W,⟨m0,w0⟩,turn⟩:=h;refine wpAny_While (codeAny_whileLoop (λn s'=>∃ σ' H',Inv X Y σ' H' s'/\W n σ' H') ?_ m0 ⟨U,H,I,w0⟩);rintro n s1 ⟨σ1,H1,I1,w1⟩;refine wpAny_passesOwn hp (aC (hc Y s1 σ1 H1 _ I1 (turn n σ1 H1 w1)) λb s2 ⟨H2,I2,q2⟩=>?_);cases b with
 |true=>
  obtain ⟨N,hN,q2⟩:=q2;rw[if_pos rfl];refine wpAny_passesOwn hp (aC (hb Y s2 σ1 H2 _ I2 q2) λf s3 q3=>?_);cases f with
  |next=>
   obtain ⟨σ3,H3,I3,n3⟩:=q3;obtain ⟨m',hm,w3⟩:=hN σ3 H3 n3;exact ⟨m',hm,σ3,H3,I3,w3⟩
  |cont=>
   obtain ⟨σ3,H3,I3,n3⟩:=q3;obtain ⟨m',hm,w3⟩:=hN σ3 H3 n3;exact ⟨m',hm,σ3,H3,I3,w3⟩
  |brk=>exact q3
  |ret v=>exact q3
 |false=>
  rw[if_neg Bool.false_ne_true];exact wpAny_execs_nil ⟨σ1,H2,I2,q2⟩
end
structure It where
 go:Nat->Hp->Prop
 yld:Nat->Hp->V->Hp->Prop
 stop:Nat->Hp->Prop
abbrev i4 (X:Cx)(Y:ND)(H:Hp)(b:Addr):Prop:=
 H b=none/\b≠X.env.locals/\b ∉ X.fs/\(b ∈ X.ex\/X.s₀.heap.objs.size<=b)/\(∀ x c,X.env.cells.lookup x=some c->c≠b)/\∀ p ∈ X.pn++Y,p.1≠b
def Inv.yO {X:Cx}{H':Hp}(I:Inv X Y U H s)(hb:s.heap.objs.size<=b)(hn:H' b=none):i4 X Y H' b:=by
 refine ⟨hn,Nat.ne_of_gt (ol I.lt hb),I.Li hb,.inr (Nat.le_trans I.sz hb),λx c e z=>?_,λp hp z=>?_⟩
 ·obtain ⟨v,q⟩:=I.cell x c e;exact absurd (ol q.lt (by rw[z];exact hb)) (Nat.lt_irrefl _)
 ·exact absurd (ol (ut (I.pin p hp).1) (by rw[z];exact hb)) (Nat.lt_irrefl _)
structure Turn (P:Program) (w:World) (K:W.Frag) (tg:Expr) (J:It) (fp:List Addr) (it:Addr) (tn:Nat->Heap->Prop):Prop where
 mem:it ∈ fp
 obj:∀ i h,tn i h->∀ b ∈ fp,∃ o,h.get? b=some o/\∀ v,o.data≠.cell v
 keep:∀ i h h',tn i h->(∀ b ∈ fp,∀ o,h.get? b=some o->h'.get? b=some o)->tn i h'
 item:∀ (X:Cx),X.prog=P->X.w=w->X.K=K->X.calm=true->∀ (i:Nat) (Y:ND) (s:Shared) (U:St) (H:Hp) (E:NC),Inv X Y U H s->(∀ b ∈ fp,i4 X Y H b)->tn i s.heap->J.go i H->
  wpAny (model P w) X.A (pyNext (.ref it)) (λr s1=>∃ u,r=some u/\
   wpAny (model P w) X.A (letOwnedTupleGo tg (.ref it) u) (λ_ s2=>∃ x H',Inv X Y U H' s2/\RelV x u/\J.yld i H x H'/\tn (i+1) s2.heap/\∀ b ∈ fp,H' b=none) E s1) E s
 done:∀ (X:Cx),X.prog=P->X.w=w->X.K=K->X.calm=true->∀ (i:Nat) (Y:ND) (s:Shared) (U:St) (H:Hp) (E:NC),Inv X Y U H s->(∀ b ∈ fp,i4 X Y H b)->tn i s.heap->J.stop i H->
  wpAny (model P w) X.A (pyNext (.ref it)) (λr s1=>r=none/\Inv X Y U H s1) E s
 self:∀ (A:Around) (i:Nat) (s:Shared) (Q:NC) (E:NC),tn i s.heap->Q (.ref it) s->wpAny (model P w) A (pyIter (.ref it)) Q E s
@[reducible]def TI:=St->Hp->(It->Hp->Prop)->Prop
abbrev KA (X:Cx)(Y:ND)(U:St)(tg:Expr)(R:It->Hp->Prop)(itv:Value)(s2:Shared):Prop:=
 ∃ (it:Addr) (fp:List Addr) (tn:Nat->Heap->Prop) (J:It) (H':Hp),itv=.ref it/\Inv X Y U H' s2/\Turn X.prog X.w X.K tg J fp it tn/\tn 0 s2.heap/\(∀ b ∈ fp,i4 X Y H' b)/\R J H'
abbrev PI (X:Cx)(tg iter:Expr)(wi:TI):Prop:=
 ∀ (Y:ND) (s:Shared) (U:St) (H:Hp) (R:It->Hp->Prop),Inv X Y U H s->wi U H R->
  wpAny (model X.prog X.w) X.A (eval iter X.env) (λv s1=>wpAny (model X.prog X.w) X.A (pyIter v) (KA X Y U tg R) X.xe s1) X.xe s
def Ar {it:Addr}{o:Obj}{n:String}{vs:Array Value}{Q:NB}(ho:s.heap.get? it=some o)(hc:o.cls=.type n)(hd:o.data=.fields vs)
  (hn:["enumerate","zip","dict_itemiterator","dict_reverseitemiterator","odict_iterator","itertools.zip_longest","itertools.pairwise"].contains n=false) (hQ:Q () s):wpAny M A (letOwnedTupleGo tg (.ref it) u) Q E s:=by
 unfold letOwnedTupleGo;cases tg<;>first
  |exact am hQ
  |(cases u<;>first
    |exact am hQ
    |(refine ad (wpAny_load ho ?_)
      rw[hc,hd];show wpAny M A (if (["enumerate","zip","dict_itemiterator","dict_reverseitemiterator","odict_iterator","itertools.zip_longest","itertools.pairwise"].contains n&&vs[0]? ==some (rawInt _))=true then _ else _) Q E s;rw[if_neg (by intro h;rw[hn,Bool.false_and] at h;cases h)];exact am hQ))
abbrev FV (K:W.Frag)(a:Addr):It:=
 ⟨λi H=>∃ xs x,aR K H a xs/\xs[i]? =some x,λi H x H'=>H'=H/\∀ xs,aR K H a xs->xs[i]? =some x,λi H=>∃ xs,aR K H a xs/\xs.length<=i⟩
abbrev J0 (K:W.Frag)(a:Addr):It:=
 ⟨λi H=>∃ xs x,aX K H a xs/\xs[i]? =some x,λi H x H'=>H'=H/\∀ xs,aX K H a xs->xs[i]? =some x,λi H=>∃ xs,aX K H a xs/\xs.length<=i⟩
abbrev E3 (lo:Int)(n:Nat):It:=⟨λi _=>i<n,λi H x H'=>H'=H/\x=.int (lo+i),λi _=>n<=i⟩
def wV {K:W.Frag}(a it:Addr):Turn P w K tg (FV K a) [it] it (λi h=>h.IsListIter it a i) where
 mem:=by simp
 obj:=λi h st b hb=>by
  have e:b=it:=by simpa using hb
  subst e;obtain ⟨o,e,c,d⟩:=st;exact ⟨o,e,λv z=>by rw[d] at z;cases z⟩
 keep:=λi h h' st k=>st.at λo e=>k it (by simp) o e
 item:=by
  intro X hP hw hK hc i Y s U H E I hf st hg;subst hP hw hK;obtain ⟨xs,x,hq,hx⟩:=hg;obtain ⟨its,rv,p,hz⟩:=I.list hq;obtain ⟨u,hu,ru⟩:=rv.get hx;obtain ⟨f0,f1,f2,f3,f4,f5⟩:=hf it (by simp);refine wpAny_pyNext_list_item st p.isList (x:=u) (by simpa using hu) λh' st' sb=>?_
  have I1:Inv X Y U H { s with heap:=h' }:=I.turned (t':=s.toks) (λb o hb e=>(sb.2 b hb).trans e) f0 f1 f3 f4 f5;obtain ⟨o,e,c,d⟩:=id st';exact ⟨u,rfl,Ar (s:={ s with heap:=h' }) e c d (by decide) ⟨x,H,I1,ru,⟨rfl,λys hy=>by rw[I.kQ hy hq];exact hx⟩,st',λb hb=>(hf b hb).1⟩⟩
 done:=by
  intro X hP hw hK hc i Y s U H E I hf st hg;subst hP hw hK;obtain ⟨xs,hq,hx⟩:=hg;obtain ⟨its,rv,p,hz⟩:=I.list hq;obtain ⟨f0,f1,f2,f3,f4,f5⟩:=hf it (by simp);have hl:=rv.length;exact wpAny_pyNext_list_end (I.ok.hd hc) st p.isList (by simp;omega) λh' eb=>⟨rfl,I.turned (t':=s.toks) (λb o hb e=>eb b o hb e) f0 f1 f3 f4 f5⟩
 self:=λ_ _ _ _ _ st h=>wpAny_pyIter_listiter st h
def tj {K:W.Frag}(a it:Addr):Turn P w K tg (J0 K a) [it] it (λi h=>h.IsTupleIter it a i) where
 mem:=by simp
 obj:=λi h st b hb=>by
  have e:b=it:=by simpa using hb
  subst e;obtain ⟨o,e,c,d⟩:=st;exact ⟨o,e,λv z=>by rw[d] at z;cases z⟩
 keep:=λi h h' st k=>st.at λo e=>k it (by simp) o e
 item:=by
  intro X hP hw hK hc i Y s U H E I hf st hg;subst hP hw hK;obtain ⟨xs,x,hq,hx⟩:=hg;obtain ⟨its,rv,p,hz⟩:=I.tuple hq;obtain ⟨u,hu,ru⟩:=rv.get hx;obtain ⟨f0,f1,f2,f3,f4,f5⟩:=hf it (by simp);refine wpAny_pyNext_tuple_item st (show s.heap.IsTuple a its.toArray from p) (x:=u) (by simpa using hu) λh' st' sb=>?_
  have I1:Inv X Y U H { s with heap:=h' }:=I.turned (t':=s.toks) (λb o hb e=>(sb.2 b hb).trans e) f0 f1 f3 f4 f5;obtain ⟨o,e,c,d⟩:=id st';exact ⟨u,rfl,Ar (s:={ s with heap:=h' }) e c d (by decide) ⟨x,H,I1,ru,⟨rfl,λys hy=>by rw[I.ja hy hq];exact hx⟩,st',λb hb=>(hf b hb).1⟩⟩
 done:=by
  intro X hP hw hK hc i Y s U H E I hf st hg;subst hP hw hK;obtain ⟨xs,hq,hx⟩:=hg;obtain ⟨its,rv,p,hz⟩:=I.tuple hq;obtain ⟨f0,f1,f2,f3,f4,f5⟩:=hf it (by simp);have hl:=rv.length;exact wpAny_pyNext_tuple_end (I.ok.hd hc) st (show s.heap.IsTuple a its.toArray from p) (by simp;omega) λh' eb=>⟨rfl,I.turned (t':=s.toks) (λb o hb e=>eb b o hb e) f0 f1 f3 f4 f5⟩
 self:=λ_ _ _ _ _ st h=>wpAny_pyIter_tupleiter st h
def tw {K:W.Frag}(it:Addr)(lo:Int)(n:Nat):Turn P w K tg (E3 lo n) [it] it (λi h=>IsRangeIter h it (lo+(i:Nat)*1) ((n:Int)-(i:Nat)) 1) where
 mem:=by simp
 obj:=λi h st b hb=>by
  have e:b=it:=by simpa using hb
  subst e;exact ⟨_,st,λv z=>by
   have z':Data.fields _=Data.cell v:=z;cases z'⟩
 keep:=λi h h' st k=>k it (by simp) _ st
 item:=by
  intro X hP hw hK hc i Y s U H E I hf st hg;subst hP hw hK;obtain ⟨f0,f1,f2,f3,f4,f5⟩:=hf it (by simp);have W:=Walks.range (prog:=X.prog) (w:=X.w) (I.ok.hd hc) it lo 1 n;refine W.item i s _ _ hg st λv h' tk hv st' kk=>?_
  obtain ⟨t,rfl⟩:=hv;have I1:Inv X Y U H { s with heap:=h',toks:=tk }:=I.turned (λb o hb e=>kk b o (by simpa using hb) e) f0 f1 f3 f4 f5;refine ⟨_,rfl,Ar (s:={ s with heap:=h',toks:=tk }) (n:="range_iterator") st' rfl rfl (by decide) ⟨.int (lo+i),H,I1,⟨t,?_⟩,⟨rfl,rfl⟩,st',λb hb=>(hf b hb).1⟩⟩;rw[Int.mul_one]
 done:=by
  intro X hP hw hK hc i Y s U H E I hf st hg;subst hP hw hK;obtain ⟨f0,f1,f2,f3,f4,f5⟩:=hf it (by simp);exact wpAny_pyNext_range_end (I.ok.hd hc) st (by have:n<=i:=hg;omega) λh' eb=>⟨rfl,I.turned (t':=s.toks) (λb o hb e=>eb b o hb e) f0 f1 f3 f4 f5⟩
 self:=λ_ _ _ _ _ st h=>wpAny_pyIter_rangeiter st h
variable {pos:Pos}{fp:List Addr}
section
variable {X:Cx}{tg:Expr}
def qO {R:It->Hp->Prop}{lo hi:Int}{t u v:Tok}{tk:Nat}(I:Inv X Y U H s)(h1: -(2 ^ 62)<=lo)(h2:lo<2 ^ 62)(h3: -(2 ^ 62)<=hi)(h4:hi<2 ^ 62)
  (q:R (E3 lo (hi-lo).toNat) H):wpAny (model X.prog X.w) X.A (pyIter (.ref s.heap.objs.size)) (KA X Y U tg R) E { s with heap:=s.heap.push { cls:=.type "range",data:=.fields #[.int lo t,.int hi u,.int 1 v] },toks:=tk }:=by
 refine wpAny_pyIter_range (IsRange.new ..) (small_one h1 h2 h3 h4) ?_;have I1:Inv X Y U H { s with heap:=s.heap.push { cls:=.type "range",data:=.fields #[.int lo t,.int hi u,.int 1 v] },toks:=tk }:=I.kept λb o e=>ul _ e
 refine ⟨(s.heap.push { cls:=.type "range",data:=.fields #[.int lo t,.int hi u,.int 1 v] }).objs.size,[(s.heap.push { cls:=.type "range",data:=.fields #[.int lo t,.int hi u,.int 1 v] }).objs.size],_,_,H,rfl,
  I1.kept (t':=tk) λb o e=>ul _ e,tw _ lo (hi-lo).toNat,?_,λb hb=>?_,q⟩
 ·have e1:lo+((0:Nat):Int)*1=lo:=by simp
  have e2:(((hi-lo).toNat:Nat):Int)-((0:Nat):Int)=Builtin.Range.rangeSize lo hi 1:=by rw[rangeSize_one];split<;>omega
  show IsRangeIter _ _ (lo+((0:Nat):Int)*1) ((((hi-lo).toNat:Nat):Int)-((0:Nat):Int)) 1;rw[e1,e2];exact v4 _ rfl
 ·have e:b=(s.heap.push { cls:=.type "range",data:=.fields #[.int lo t,.int hi u,.int 1 v] }).objs.size:=by simpa using hb
  subst e;exact I1.yO (re _) (I1.hok.fresh (re _))
abbrev Ie (ta:TA):TI:=λU H R=>ta U H λvs H1=>∃ j:Int,vs=[.int j]/\ -(2 ^ 62)<=j/\j<2 ^ 62/\R (E3 0 j.toNat) H1
abbrev JY (ta:TA):TI:=λU H R=>ta U H λvs H1=>∃ i j:Int,vs=[.int i,.int j]/\(-(2 ^ 62)<=i/\i<2 ^ 62/\ -(2 ^ 62)<=j/\j<2 ^ 62)/\R (E3 i (j-i).toNat) H1
def wW {a:Expr}{ta:TA}{p:Pos}(hg:Gl X "range") (hm:X.mg "range"=none) (ha:PA X [a] ta) (hs:bm [a] X.env=[(false,eval a X.env)]:=by rfl):PI X tg (.Call (.Name "range" p) [a] [] pos) (Ie ta):=by
 intro Y s U H R I h;refine Call_ (cS I hg hm boot_range (PyProof.Rows.callWith_type1 (aC (ha pos Y s U H _ I h) λus s1 ⟨vs,H1,I1,r1,q1⟩=>?_) hs rfl));obtain ⟨j,e,q1,q2,q⟩:=q1;subst e;cases r1 with
 |cons r rr=>
  cases rr;obtain ⟨t,rfl⟩:=r;exact call_range_1 (qO I1 nofun nofun q1 q2 (by simpa using q))
def wM {a b:Expr}{ta:TA}{p:Pos}(hg:Gl X "range") (hm:X.mg "range"=none) (ha:PA X [a,b] ta) (hs:bm [a,b] X.env=[(false,eval a X.env),(false,eval b X.env)]:=by rfl) (hs2:bm [b] X.env=[(false,eval b X.env)]:=by rfl):
  PI X tg (.Call (.Name "range" p) [a,b] [] pos) (JY ta):=by
 intro Y s U H R I h;refine Call_ (cS I hg hm boot_range (PyProof.Rows.callWith_type1 (aC (ha pos Y s U H _ I h) λus s1 ⟨vs,H1,I1,r1,q1⟩=>?_) (by rw[hs,hs2]) (by rw[hs2];rfl)));obtain ⟨i,j,e,⟨q1,q2,q3,q4⟩,q⟩:=q1;subst e;cases r1 with
 |cons r rr=>
  cases rr with
  |cons r' rr=>
   cases rr;obtain ⟨t,rfl⟩:=r;obtain ⟨t',rfl⟩:=r';exact call_range_2 (qO I1 q1 q2 q3 q4 q)
abbrev Ld (wi:TI)(g:TG)(tb:TS):TS:=λD U H=>wi U H λJ H1=>∃ W:Nat->Nat->St->Hp->Prop,(∃ m,W 0 m U H1)/\∀ i m U H,W i m U H->
 (J.stop i H/\D.nx U H)\/(J.go i H/\∃ N:St->Hp->Prop,(∀ σ' H',N σ' H'->∃ m',m'<m/\W (i+1) m' σ' H')/\∀ x H',J.yld i H x H'->g x U H' λσ2 H2=>tb { D with nx:=N,ct:=N,bk:=D.nx } σ2 H2)
abbrev oY (fp:List Addr)(h:Heap):List (Addr×Obj):=fp.filterMap λb=>(h.get? b).map λo=>(b,o)
def bT {o:Obj}(hb:b ∈ fp)(e:h.get? b=some o):(b,o) ∈ oY fp h:=List.mem_filterMap.mpr ⟨b,hb,by rw[e];rfl⟩
def xM {p:Addr×Obj}(hp:p ∈ oY fp h):p.1 ∈ fp/\h.get? p.1=some p.2:=by
 obtain ⟨b,hb,e⟩:=List.mem_filterMap.mp hp;cases q:h.get? b with
 |none=>rw[q] at e;cases e
 |some o=>
  rw[q] at e;have e':(b,o)=p:=Option.some.inj e;subst e';exact ⟨hb,q⟩
def Inv.pinned (I:Inv X Y U H s)(hf:∀ b ∈ fp,i4 X Y H b) (ho:∀ b ∈ fp,∃ o,s.heap.get? b=some o/\∀ v,o.data≠.cell v):Inv X (Y++oY fp s.heap) U H s:=
 I.n8 λp hp=>(mem_append.mp hp).elim (λz=>I.pin p (im _ z)) λz=>by
  obtain ⟨hb,e⟩:=xM z;obtain ⟨f0,f1,f2,_⟩:=hf p.1 hb;obtain ⟨o,e',d⟩:=ho p.1 hb;rw[e] at e';cases e';exact ⟨e,f0,f1,f2,d⟩
def Inv.fw {pl:ND}(I:Inv X (Y++pl) U H s):Inv X Y U H s:=I.n8 λp hp=>I.pin p (im _ (mem_append_left _ hp))
def G4 {iter:Expr}{wi:TI}{g:TG}{tb:TS}(hp:PassesOwn (model X.prog X.w) X.A X.env X.xe)(hc:X.calm=true)(hi:PI X tg iter wi)(hg:PG X tg g)(hb:BX X body tb)
  (hs:∀ x,foldedSetIterable iter X.env x=pure x:=by intro _;rfl):PS X (.For tg iter body [] pos) (Ld wi g tb):=by
 intro Y s U H D I h;refine wpAny_For (aC (hi Y s U H _ I h) λv s1 h1=>aC h1 λitv s2 h2=>?_) hs;obtain ⟨it,fp,tn,J,H2,e,I2,T,qd,f2,W,⟨m0,w0⟩,turn⟩:=h2;subst e;have stat:∀ {H':Hp},(∀ b ∈ fp,H' b=none)->∀ b ∈ fp,i4 X Y H' b:=λhn b hb=>⟨hn b hb,(f2 b hb).2⟩
 refine codeAny_forLoop_any (λn s'=>∃ i σ' H',Inv X Y σ' H' s'/\tn i s'.heap/\(∀ b ∈ fp,H' b=none)/\W i n σ' H') ?_ m0 ⟨0,U,H2,I2,qd,λb hb=>(f2 b hb).1,w0⟩;rintro n s3 ⟨i,σ3,H3,I3,st3,fr3,w3⟩;rcases turn i n σ3 H3 w3 with ⟨stop,qn⟩|⟨go,N,hN,step⟩
 ·refine wpAny_passesOwn hp (aC (T.done X rfl rfl rfl hc i Y s3 σ3 H3 X.xe I3 (stat fr3) st3 stop) λr s4 ⟨hr,I4⟩=>?_);subst hr;exact wpAny_execs_nil ⟨σ3,H3,I4,qn⟩
 ·refine wpAny_passesOwn hp (aC (T.item X rfl rfl rfl hc i Y s3 σ3 H3 X.xe I3 (stat fr3) st3 go) λr s4 ⟨u,hr,h4⟩=>?_);subst hr;refine wpAny_passesOwn hp (aC h4 λ_ s5 ⟨x,H5,I5,r5,y5,st5,fr5⟩=>?_);have I5':=I5.pinned (stat fr5) (T.obj _ _ st5);refine wpAny_passesOwn hp (aC (hg _ s5 σ3 H5 x u _ I5' r5 (step x H5 y5)) λ_ s6 ⟨σ6,H6,I6,q6⟩=>?_);refine wpAny_passesOwn hp (aC (hb _ s6 σ6 H6 _ I6 q6) λf s7 q7=>?_);have again:∀ {σ7:St}{H7:Hp},Inv X (Y++oY fp s5.heap) σ7 H7 s7->N σ7 H7->∃ m,m<n/\∃ i σ' H',Inv X Y σ' H' s7/\tn i s7.heap/\(∀ b ∈ fp,H' b=none)/\W i m σ' H':=λ{σ7 H7} I7 n7=>by
   obtain ⟨m',hm,w7⟩:=hN σ7 H7 n7;refine ⟨m',hm,i+1,σ7,H7,I7.fw,T.keep _ _ _ st5 λb hb o e=>(I7.pin (b,o) (im _ (im _ (bT hb e)))).1,λb hb=>?_,w7⟩;obtain ⟨o,e,d⟩:=T.obj _ _ st5 b hb;exact (I7.pin (b,o) (im _ (im _ (bT hb e)))).2.1
  cases f with
  |next=>obtain ⟨σ7,H7,I7,n7⟩:=q7;exact again I7 n7
  |cont=>obtain ⟨σ7,H7,I7,n7⟩:=q7;exact again I7 n7
  |brk=>obtain ⟨σ7,H7,I7,q7⟩:=q7;exact ⟨σ7,H7,I7.fw,q7⟩
  |ret v=>obtain ⟨x7,σ7,H7,I7,r7,q7⟩:=q7;exact ⟨x7,σ7,H7,I7.fw,r7,q7⟩
end
@[reducible]def R2:=V->V->Hp->VK->Prop
abbrev cV (X:Cx)(f:Value->Value->Sem Value)(r:R2):Prop:=
 ∀ (Y:ND) (s:Shared) (U:St) (H:Hp) (x y:V) (v u:Value) (Q:VK),Inv X Y U H s->RelV x v->RelV y u->r x y H Q->
  wpAny (model X.prog X.w) X.A (f v u) (EP X Y U Q) X.xe s
abbrev KD (X:Cx)(f:Value->Sem Value)(r:V->Hp->VK->Prop):Prop:=
 ∀ (Y:ND) (s:Shared) (U:St) (H:Hp) (x:V) (v:Value) (Q:VK),Inv X Y U H s->RelV x v->r x H Q->
  wpAny (model X.prog X.w) X.A (f v) (EP X Y U Q) X.xe s
abbrev cT (X:Cx)(f:Value)(r:List V->Hp->VK->Prop):Prop:=
 ∀ (Y:ND) (s:Shared) (U:St) (H:Hp) (xs:List V) (us:List Value) (Q:VK),Inv X Y U H s->Vals xs us->r xs H Q->
  wpAny (model X.prog X.w) X.A (call f us) (EP X Y U Q) X.xe s
abbrev Mi (X:Cx)(r:V->Hp->(Bool->Hp->Prop)->Prop):Prop:=
 ∀ (Y:ND) (s:Shared) (U:St) (H:Hp) (x:V) (v:Value) (Q:Bool->Hp->Prop),Inv X Y U H s->RelV x v->r x H Q->
  wpAny (model X.prog X.w) X.A (truthy v) (TP X Y U Q) X.xe s
abbrev KH (r:R2)(ta tb:TE):TE:=λU H Q=>ta U H λx H1=>tb U H1 λy H2=>r x y H2 Q
abbrev MN (r:V->Hp->VK->Prop)(ta:TE):TE:=λU H Q=>ta U H λx H1=>r x H1 Q
abbrev rI (C:Int->Int->Prop)(g:Int->Int->V):R2:=λx y H Q=>∃ i j,x=.int i/\y=.int j/\C i j/\Q (g i j) H
abbrev Dz (g:Int->Int->V):R2:=λx y H Q=>∃ i j,x=.int i/\y=.int j/\Q (g i j) H
abbrev rU (g:Int->V):V->Hp->VK->Prop:=λx H Q=>∃ i,x=.int i/\Q (g i) H
variable {f:Value->Value->Sem Value}{r:R2}{g:Int->Int->Int}
section
variable {X:Cx}{a b c:Expr}{ta tb tc:TE}{pos:Pos}
def Gh (ha:PE X a ta)(hb:PE X b tb){R:V->V->Hp->Prop}(I:Inv X Y U H s)
  (h:ta U H λx H1=>tb U H1 λy H2=>R x y H2)
  (hf:∀ v u s2 x y H2,Inv X Y U H2 s2->RelV x v->RelV y u->R x y H2->wpAny (model X.prog X.w) X.A (f v u) Q X.xe s2):
  wpAny (model X.prog X.w) X.A (eval a X.env) (λv s₁=>wpAny (model X.prog X.w) X.A (eval b X.env) (λu s₂=>wpAny (model X.prog X.w) X.A (f v u) Q X.xe s₂) X.xe s₁) X.xe s:=by
 refine aC (ha Y s U H _ I h) λv s1 ⟨x,H1,I1,r1,q1⟩=>?_
 refine aC (hb Y s1 U H1 _ I1 q1) λu s2 ⟨y,H2,I2,r2,q2⟩=>?_
 exact hf v u s2 x y H2 I2 r1 r2 q2
def Ip (ho:cV X (binaryOp op) r)(ha:PE X a ta)(hb:PE X b tb):PE X (.BinOp a op b pos) (KH r ta tb):=by
 intro Y s U H Q I h;exact wpAny_BinOp (Gh ha hb I h λv u s2 x y H2 I2 rx ry q=>ho Y s2 U H2 x y v u Q I2 rx ry q)
def Iu {op:UnaryOp}{r:V->Hp->VK->Prop}(ho:KD X (unaryOp op) r)(ha:PE X a ta):PE X (.UnaryOp op a pos) (MN r ta):=by
 intro Y s U H Q I h;exact UnaryOp_ (aC (ha Y s U H _ I h) λv s1 ⟨x,H1,I1,r1,q1⟩=>ho Y s1 U H1 x v Q I1 r1 q1)
def KI {C:Int->Int->Prop}
  (rule:∀ (i j:Int) (t u:Tok) (s:Shared) (Q:NC) (E:NC),C i j->Q (.int (g i j) s.toks) { s with toks:=s.toks+1 }->wpAny (model X.prog X.w) X.A (f (.int i t) (.int j u)) Q E s):
  cV X f (rI C λi j=>.int (g i j)):=by
 intro Y s U H x y v u Q I rx ry h;obtain ⟨i,j,rfl,rfl,hc,q⟩:=h;obtain ⟨t,rfl⟩:=rx;obtain ⟨t',rfl⟩:=ry;exact rule i j t t' s _ _ hc ⟨.int (g i j),H,I.tok _,⟨_,rfl⟩,q⟩
def Jm 
  (rule:∀ (i j:Int) (t u:Tok) (s:Shared) (Q:NC) (E:NC),Q (.int (g i j) s.toks) { s with toks:=s.toks+1 }->wpAny (model X.prog X.w) X.A (f (.int i t) (.int j u)) Q E s):
  cV X f (Dz λi j=>.int (g i j)):=by
 intro Y s U H x y v u Q I rx ry h;obtain ⟨i,j,rfl,rfl,q⟩:=h;obtain ⟨t,rfl⟩:=rx;obtain ⟨t',rfl⟩:=ry;exact rule i j t t' s _ _ ⟨.int (g i j),H,I.tok _,⟨_,rfl⟩,q⟩
def BF {g:Int->Int->Bool}
  (rule:∀ (i j:Int) (t u:Tok) (s:Shared) (Q:NC) (E:NC),Q (.bool (g i j)) s->wpAny (model X.prog X.w) X.A (f (.int i t) (.int j u)) Q E s):
  cV X f (Dz λi j=>.bl (g i j)):=by
 intro Y s U H x y v u Q I rx ry h;obtain ⟨i,j,rfl,rfl,q⟩:=h;obtain ⟨t,rfl⟩:=rx;obtain ⟨t',rfl⟩:=ry;exact rule i j t t' s _ _ ⟨.bl (g i j),H,I,rfl,q⟩
abbrev KY (i j:Int):Prop:=0<j/\j<1073741824
abbrev Cr (i j:Int):Prop:=0<=j/\j<=1000000/\i.natAbs<2 ^ 64
abbrev rQ (i j:Int):Prop:=(-(2 ^ 64)<i/\i<2 ^ 64)\/(-(2 ^ 64)<j/\j<2 ^ 64)
def rQ.ok {i j:Int}(h:rQ i j):IntMulOk i j:=by
 rcases h with ⟨h1,h2⟩|⟨h1,h2⟩
 ·exact .of_left (intBits_le_64 h1 h2)
 ·exact .of_right (intBits_le_64 h1 h2)
def Gp:cV X (binaryOp .Add) (Dz λi j=>.int (i+j)):=Jm λ_ _ _ _ _ _ _ q=>add_int q
def Fb:cV X (binaryOp .Sub) (Dz λi j=>.int (i-j)):=Jm λ_ _ _ _ _ _ _ q=>sub_int q
def E8:cV X (binaryOp .Mult) (rI rQ λi j=>.int (i*j)):=KI λ_ _ _ _ _ _ _ hc q=>mul_int q hc.ok
def CY:cV X (binaryOp .FloorDiv) (rI KY λi j=>.int (i / j)):=KI λi j _ _ _ _ _ hc q=>by
 have h1:(0:Int)<j:=hc.1;have h2:j<1073741824:=hc.2;exact floordiv_int nofun (by rw[Int.fdiv_eq_ediv_of_nonneg i nofun];exact q) (.inl (PyProof.noPylong_small nofun))
def Fu:cV X (binaryOp .Mod) (rI (λ_ j=>0<j) λi j=>.int (i % j)):=KI λi j _ _ _ _ _ hc q=>by
 have h1:(0:Int)<j:=hc;exact mod_int' nofun (by rw[Int.fmod_eq_emod_of_nonneg i nofun];exact q)
def G1:cV X (binaryOp .Pow) (rI Cr λi j=>.int (i ^ j.toNat)):=KI λ_ _ _ _ _ _ _ hc q=>pow_int_small hc.1 hc.2.1 hc.2.2 q
def Nf {f:Value->Sem Value}{g:Int->Int}
  (rule:∀ (i:Int) (t:Tok) (s:Shared) (Q:NC) (E:NC),Q (.int (g i) s.toks) { s with toks:=s.toks+1 }->wpAny (model X.prog X.w) X.A (f (.int i t)) Q E s):
  KD X f (rU λi=>.int (g i)):=by
 intro Y s U H x v Q I rx h;obtain ⟨i,rfl,q⟩:=h;obtain ⟨t,rfl⟩:=rx;exact rule i t s _ _ ⟨.int (g i),H,I.tok _,⟨_,rfl⟩,q⟩
def Gr:KD X (unaryOp .USub) (rU λi=>.int (-i)):=Nf λ_ _ _ _ _ q=>neg_int q
end
section
variable {X:Cx}{a b c:Expr}{ta tb tc:TE}{pos:Pos}
def Ab {Q:VK}{k k':Bool}(I:Inv X Y U H s)(q:Q (.bl k) H)(e:k=k'):EP X Y U Q (.bool k') s:=by
 subst e;exact ⟨.bl k,H,I,rfl,q⟩
def JU:cV X (compareOp .Lt) (Dz λi j=>.bl (decide (i<j))):=BF λ_ _ _ _ _ _ _ q=>lt_int q
def IW:cV X (compareOp .LtE) (Dz λi j=>.bl (decide (i<=j))):=BF λ_ _ _ _ _ _ _ q=>le_int q
def JQ:cV X (compareOp .Gt) (Dz λi j=>.bl (decide (j<i))):=BF λ_ _ _ _ _ _ _ q=>gt_int q
def Kb:cV X (compareOp .GtE) (Dz λi j=>.bl (decide (j<=i))):=BF λ_ _ _ _ _ _ _ q=>ge_int q
def GV:cV X (compareOp .Is) (λx y H Q=>y=.non/\Q (.bl (decide (x=.non))) H):=by
 intro Y s U H x y v u Q I rx ry h;obtain ⟨rfl,q⟩:=h;cases ry;refine is_none_gen (Ab I q ?_);cases x<;>first
  |(cases rx;rfl)
  |(obtain ⟨t,rfl⟩:=rx;rfl)
def Di:cV X (compareOp .IsNot) (λx y H Q=>y=.non/\Q (.bl (!decide (x=.non))) H):=by
 intro Y s U H x y v u Q I rx ry h;obtain ⟨rfl,q⟩:=h;cases ry;refine isnot_none_gen (Ab I q ?_);cases x<;>first
  |(cases rx;rfl)
  |(obtain ⟨t,rfl⟩:=rx;rfl)
def Ck {op:CmpOp}(ho:cV X (compareOp op) r)(ha:PE X a ta)(hb:PE X b tb)(hm:behindInMarks op b=false):PE X (.Compare a [op] [b] pos) (KH r ta tb):=by
 intro Y s U H Q I h;exact wpAny_Compare1 (Gh ha hb I h λv u s2 x y H2 I2 rx ry q=>ho Y s2 U H2 x y v u Q I2 rx ry q) hm
abbrev Ep (t:TE):TT:=λU H Q=>t U H λx H'=>∃ k,x=.bl k/\Q k H'
def Cz {op:CmpOp}(ho:cV X (compareOp op) r)(ha:PE X a ta)(hb:PE X b tb)(hm:behindInMarks op b=false):PT X (.Compare a [op] [b] pos) (Ep (KH r ta tb)):=by
 intro Y s U H Q I h;refine wpAny_isTrue_Compare1 (aC (ha Y s U H _ I h) λv s1 ⟨x,H1,I1,r1,q1⟩=>aC (hb Y s1 U H1 _ I1 q1) λu s2 ⟨y,H2,I2,r2,q2⟩=>
  aC (ho Y s2 U H2 x y v u _ I2 r1 r2 q2) λc s3 ⟨z,H3,I3,r3,k,e,q3⟩=>?_) hm
 subst e;cases r3;exact bi ⟨H3,I3,q3⟩
abbrev yZ (r r':R2)(ta tb tc:TE):TE:=λU H Q=>ta U H λx H1=>tb U H1 λy H2=>r x y H2 λz H3=>∃ k,z=.bl k/\
 (if k=true then tc U H3 λw' H4=>r' y w' H4 Q else Q (.bl false) H3)
def zO {op op':CmpOp}{r':R2}(ho:cV X (compareOp op) r)(ho':cV X (compareOp op') r')(ha:PE X a ta)(hb:PE X b tb)(hc:PE X c tc)
  (hm:lastMarks [op,op'] [b,c]=false:=by with_unfolding_all rfl):PE X (.Compare a [op,op'] [b,c] pos) (yZ r r' ta tb tc):=by
 intro Y s U H Q I h;refine Compare_chain (aC (ha Y s U H _ I h) λv s1 ⟨x,H1,I1,r1,q1⟩=>chain_link (aC (hb Y s1 U H1 _ I1 q1) λu s2 ⟨y,H2,I2,r2,q2⟩=>
  aC (ho Y s2 U H2 x y v u _ I2 r1 r2 q2) λd s3 ⟨z,H3,I3,r3,k,e,q3⟩=>?_)) hm
 subst e;cases r3;refine bi ?_;cases k with
 |false=>exact ite_ff ⟨.bl false,H3,I3,rfl,q3⟩
 |true=>exact ite_tt (chain_last (aC (hc Y s3 U H3 _ I3 q3) λw' s4 ⟨z',H4,I4,r4,q4⟩=>ho' Y s4 U H4 y z' u w' Q I4 r2 r4 q4))
def yv {op op':CmpOp}{r':R2}(ho:cV X (compareOp op) r)(ho':cV X (compareOp op') r')(ha:PE X a ta)(hb:PE X b tb)(hc:PE X c tc)
  (hm:lastMarks [op,op'] [b,c]=false:=by with_unfolding_all rfl):PT X (.Compare a [op,op'] [b,c] pos) (Ep (yZ r r' ta tb tc)):=by
 intro Y s U H Q I h;refine isTrue_chain (aC (ha Y s U H _ I h) λv s1 ⟨x,H1,I1,r1,q1⟩=>test_link (aC (hb Y s1 U H1 _ I1 q1) λu s2 ⟨y,H2,I2,r2,q2⟩=>
  aC (ho Y s2 U H2 x y v u _ I2 r1 r2 q2) λd s3 ⟨z,H3,I3,r3,k,e,q3⟩=>?_)) hm
 subst e;cases r3;refine bi ?_;cases k with
 |false=>
  obtain ⟨k',e',q'⟩:=q3;cases e';exact ite_ff ⟨H3,I3,q'⟩
 |true=>
  refine ite_tt (test_last (aC (hc Y s3 U H3 _ I3 q3) λw' s4 ⟨z',H4,I4,r4,q4⟩=>aC (ho' Y s4 U H4 y z' u w' _ I4 r2 r4 q4) λd' s5 ⟨z2,H5,I5,r5,k2,e2,q5⟩=>?_));subst e2;cases r5;exact bi ⟨H5,I5,q5⟩
abbrev D9 (K:W.Frag)(x:V)(H:Hp)(k:Bool):Prop:=
 match x with
 | .non=>k=false
 | .bl b=>k=b
 | .int i=>k=(i != 0)
 | .str y=>y.length<=bn/\k=((y.length:Int) != 0)
 | .byt y=>y.size<=bn/\k=((y.size:Int) != 0)
 | .ref p=>(∃ xs,aR K H p xs/\k= !xs.isEmpty)\/(∃ xs,aX K H p xs/\k= !xs.isEmpty)\/∃ kvs,H p=some (.dK kvs)/\k= !kvs.isEmpty
 |_=>False
def uC {κ:Type}{kvs:List (κ×V)}{vs:List (κ×Value)}(r:KV kvs vs):(!vs.isEmpty)= !kvs.isEmpty:=by
 cases r<;>rfl
def lL {its:List Value}(r:Vals xs its):(!its.toArray.isEmpty)= !xs.isEmpty:=by
 cases r<;>simp
def gk:(bn:Nat)<2 ^ 63:=by rw[sizeLine_eq];decide
def Gw:Mi X (λx H Q=>∃ k,D9 X.K x H k/\Q k H):=by
 intro Y s U H x v Q I rx h;obtain ⟨k,e,q⟩:=h;have hl:=gk;have hs:bn=16777216:=sizeLine_eq;cases x with
 |non=>
  cases rx;have e':k=false:=e;subst e';exact truthy_none ⟨H,I,q⟩
 |bl b=>
  cases rx;have e':k=b:=e;subst e';exact bi ⟨H,I,q⟩
 |int i=>
  obtain ⟨t,rfl⟩:=rx;have e':k=(i != 0):=e;subst e';exact PySem.P.truthy_int ⟨H,I,q⟩
 |str y=>
  obtain ⟨t,rfl⟩:=rx;obtain ⟨hy,e'⟩:y.length<=bn/\k=((y.length:Int) != 0):=e;subst e';exact PySem.P.truthy_str nofun ⟨H,I.tok _,q⟩
 |byt y=>
  obtain ⟨t,rfl⟩:=rx;obtain ⟨hy,e'⟩:y.size<=bn/\k=((y.size:Int) != 0):=e;subst e';exact W.truthy_bytes nofun ⟨H,I.tok _,q⟩
 |ref p=>
  cases rx;have e':(∃ xs,aR X.K H p xs/\k= !xs.isEmpty)\/(∃ xs,aX X.K H p xs/\k= !xs.isEmpty)\/∃ kvs,H p=some (.dK kvs)/\k= !kvs.isEmpty:=e;rcases e' with ⟨xs,hx,e'⟩|⟨xs,hx,e'⟩|⟨kvs,hx,e'⟩
  ·subst e';obtain ⟨its,r,pl,hz⟩:=I.list hx;have hlen:=r.length;exact wpAny_truthy_list pl.isList (by simp only[ii];omega) ⟨H,I.tok _,by rw[lL r];exact q⟩
  ·subst e';obtain ⟨its,r,pl,hz⟩:=I.tuple hx;have hlen:=r.length;exact truthy_tuple pl (by simp only[ii];omega) ⟨H,I.tok _,by rw[lL r];exact q⟩
  ·subst e';obtain ⟨hz,hS,vs,r,m⟩:kvs.length<=bn/\(p ==sysModules)=false/\∃ vs,KV kvs vs/\s.heap.DictOf (ay X.prog X.w) p vs:=I.hok p _ hx;have hlen:kvs.length=vs.length:=Paired.length r;exact wpAny_truthy_dict hS m nofun ⟨H,I.tok _,by rw[uC r];exact q⟩
 |_=>exact (show False from e).elim
def yn (ha:PE X a ta)(he:∀ whole,isTrue a X.env whole=(do let v <-whole;standAt a.pos;holding [v] (truthy v))):
  PT X a (λU H Q=>ta U H λx H'=>∃ k,D9 X.K x H' k/\Q k H'):=by
 intro Y s U H Q I h;exact isTrue_plain (aC (ha Y s U H _ I h) λv s1 ⟨x,H1,I1,r1,q1⟩=>Gw Y s1 U H1 x v Q I1 r1 q1) (he _)
def t7:cV X (binaryOp .Add) (λx y H Q=>∃ i j,x=.str i/\y=.str j/\i.length+j.length<=bn/\Q (.str (i++j)) H):=by
 intro Y s U H x y v u Q I rx ry h;obtain ⟨i,j,rfl,rfl,hz,q⟩:=h;obtain ⟨t,rfl⟩:=rx;obtain ⟨t',rfl⟩:=ry;exact add_str (λt' tk=>⟨.str (i++j),H,I.tok _,⟨_,rfl⟩,q⟩) hz
def vals1 {x:V}(r:Vals [x] us):∃ u,us=[u]/\RelV x u:=by
 cases r with
 |cons r1 r2=>cases r2;exact ⟨_,rfl,r1⟩
def vals2 {x y:V}(r:Vals [x,y] us):∃ u w',us=[u,w']/\RelV x u/\RelV y w':=by
 cases r with
 |cons r1 r2=>
  cases r2 with
  |cons r3 r4=>cases r4;exact ⟨_,_,rfl,r1,r3⟩
def wR (hc:X.calm=true):cT X (.builtin "max") (λxs H Q=>∃ i j,xs=[.int i,.int j]/\Q (.int (if j>i then j else i)) H):=by
 intro Y s U H xs us Q I r h;obtain ⟨i,j,rfl,q⟩:=h;obtain ⟨u,w',rfl,⟨t,rfl⟩,⟨t',rfl⟩⟩:=vals2 r;refine max_two_ints (I.ok.hd hc) λh' tk k=>⟨_,H,I.kept k,?_,q⟩
 by_cases hj:j>i
 ·rw[if_pos hj,if_pos hj];exact ⟨_,rfl⟩
 ·rw[if_neg hj,if_neg hj];exact ⟨_,rfl⟩
def xg (hc:X.calm=true):cT X (.builtin "min") (λxs H Q=>∃ i j,xs=[.int i,.int j]/\Q (.int (if j<i then j else i)) H):=by
 intro Y s U H xs us Q I r h;obtain ⟨i,j,rfl,q⟩:=h;obtain ⟨u,w',rfl,⟨t,rfl⟩,⟨t',rfl⟩⟩:=vals2 r;refine min_two_ints (I.ok.hd hc) λh' tk k=>⟨_,H,I.kept k,?_,q⟩
 by_cases hj:j<i
 ·rw[if_pos hj,if_pos hj];exact ⟨_,rfl⟩
 ·rw[if_neg hj,if_neg hj];exact ⟨_,rfl⟩
def xy:cT X (.type "int") (λxs H Q=>(∃ i,xs=[.int i]/\Q (.int i) H)\/∃ k,xs=[.bl k]/\Q (.int (if k then 1 else 0)) H):=by
 intro Y s U H xs us Q I r h;rcases h with ⟨i,rfl,q⟩|⟨k,rfl,q⟩
 ·obtain ⟨u,rfl,t,rfl⟩:=vals1 r;exact call_int_int ⟨.int i,H,I,⟨_,rfl⟩,q⟩
 ·obtain ⟨u,rfl,r1⟩:=vals1 r;cases r1;exact call_int_bool ⟨.int (if k then 1 else 0),H,I.tok _,⟨_,rfl⟩,q⟩
def pG:cT X (.type "str") (λxs H Q=>∃ i,xs=[.int i]/\i.natAbs.log2<1920/\Q (.str (toString i)) H):=by
 intro Y s U H xs us Q I r h;obtain ⟨i,rfl,hz,q⟩:=h;obtain ⟨u,rfl,t,rfl⟩:=vals1 r;exact PySem.P.str_of_int hz ⟨.str _,H,I.tok _,⟨_,rfl⟩,q⟩
abbrev Ki (K:W.Frag)(x:V)(H:Hp)(n:Nat):Prop:=
 match x with
 | .str y=>y.length<=bn/\n=y.length
 | .byt y=>y.size<=bn/\n=y.size
 | .ref p=>(∃ xs,aR K H p xs/\n=xs.length)\/∃ xs,aX K H p xs/\n=xs.length
 |_=>False
def zU:cT X (.builtin "len") (λxs H Q=>∃ x n,xs=[x]/\Ki X.K x H n/\Q (.int n) H):=by
 intro Y s U H xs us Q I r h;obtain ⟨x,n,rfl,e,q⟩:=h;obtain ⟨u,rfl,rx⟩:=vals1 r;have hl:=gk;have hs:bn=16777216:=sizeLine_eq;cases x with
 |str y=>
  obtain ⟨t,rfl⟩:=rx;obtain ⟨hy,e'⟩:y.length<=bn/\n=y.length:=e;subst e';exact len_str nofun ⟨.int _,H,I.tok _,⟨_,rfl⟩,q⟩
 |byt y=>
  obtain ⟨t,rfl⟩:=rx;obtain ⟨hy,e'⟩:y.size<=bn/\n=y.size:=e;subst e';exact W.len_bytes nofun ⟨.int _,H,I.tok _,⟨_,rfl⟩,q⟩
 |ref p=>
  cases rx;have e':(∃ xs,aR X.K H p xs/\n=xs.length)\/∃ xs,aX X.K H p xs/\n=xs.length:=e;rcases e' with ⟨xs,hx,e'⟩|⟨xs,hx,e'⟩
  ·subst e';obtain ⟨its,r',pl,hz⟩:=I.list hx;have hlen:=r'.length;exact Calls.call_len_list pl.isList (by simp only[ii];omega) ⟨.int xs.length,H,I.tok _,⟨_,by simp only[ii];rw[hlen]⟩,q⟩
  ·subst e';obtain ⟨its,r',pl,hz⟩:=I.tuple hx;have hlen:=r'.length;exact len_tuple pl (by simp only[ii];omega) ⟨.int xs.length,H,I.tok _,⟨_,by simp only[ii];rw[hlen]⟩,q⟩
 |_=>exact (show False from e).elim
end
structure uu (h:Heap) (x dx C:Addr) (mA:NF):Prop where
 obj:h.get? x=some (W.instObj C dx)
 ns:h.Ns1 dx mA
 ne:dx≠x
variable {mA:NF}
def jg {dx:Addr}(n:h.Ns1 dx mA):∃ od,h.get? dx=some od/\∀ name,W.lookIn name od=some (mA name):=by
 obtain ⟨o,es,ep,ho,hd,hk,_,hm⟩:=n;refine ⟨o,ho,λname=>?_⟩;have e:=hm name;unfold nsFind findBy at e;rw[<-Array.find?_toList] at e;unfold W.lookIn;rw[hd];dsimp only
 split
 ·rename_i y q;rw[q] at e;exact congrArg some e
 ·rename_i q;rw[q] at e;have a:es.toList.any (·.refKey)=false:=by
   rw[any_eq_false];intro y hy;obtain ⟨z,t,hkey⟩:=hk y (Array.mem_toList_iff.mp hy);simp[DictEntry.refKey,hkey]
  have a':¬ es.toList.any (·.refKey)=true:=by rw[a];exact Bool.false_ne_true
  rw[if_neg a'];exact congrArg some e
variable {C:Addr}
def uu.look {x dx:Addr}(I:uu h x dx C mA):∃ od,W.InstAt h x (W.instObj C dx) C (some od)/\∀ name,W.lookIn name od=some (mA name):=
 let ⟨od,ho,hl⟩:=jg I.ns
 ⟨od,⟨I.obj,rfl,rfl,ho⟩,hl⟩
variable {pl:Sem Bool}{kw:List (Str×Value)}
section
variable {prog:Program}{w:World}{A:Around}{E:NC}{s:Shared}{K:W.Frag}{x dx C f:Addr}{mA:NF}{name:Str}{v:Value}
def get_map {expr:Bool}(X:K.In s.heap)(I:uu s.heap x dx C mA)(hg:W.plainGet K C name=true)(hh:W.hasDictIn K C=true)
  (ha:W.findIn K (.ref C) name=some none) (hv:mA name=some v) (hv':W.handedIn v=true) (h:Q v { s with toks:=s.toks+1 }):
  wpAny (model prog w) A (getAttr (.ref x) name expr) Q E s:=by
 obtain ⟨od,J,hl⟩:=I.look;exact W.get_value X J (W.plainGet_of hg).1 (W.findObj_own hh ha rfl (by rw[hl,hv])) hv' h
def yz {Q:Value×List Value->Shared->Prop}(X:K.In s.heap)(I:uu s.heap x dx C mA)(hg:W.plainGet K C name=true)
  (hf:W.findIn K (.ref C) name=some (some (.ref f))) (ht:W.isFn K (.ref f)=true) (hv:mA name=none) (h:Q (.ref f,[.ref x]) s):
  wpAny (model prog w) A (getMethod (.ref x) name pl) Q E s:=by
 obtain ⟨od,J,hl⟩:=I.look;exact W.method_fn X J (W.plainGet_of hg).1 (W.plainGet_of hg).2 hf (beq_iff_eq.mp ht) (by show (W.lookIn name od).map (·.isSome)=some false;rw[hl,hv];rfl) h
def c4 {ns:List Str}{Q:NB}(X:K.In s.heap)(I:uu s.heap x dx C mA)
  (hs:W.findIn K (.ref C) "__setattr__"=some (some (.builtin "object.__setattr__"))) (hp:W.plainOver K C=true) (ht:W.takerIn K C name=some none) (hh:W.hasDictIn K C=true)
  (hw:PySem.Within mA ns) (hsz:ns.length<=bn)
  (h:∀ h',uu h' x dx C (λy=>if y=name then some v else mA y)->Heap.SameBut dx s.heap h'->Q () { s with heap:=h',toks:=s.toks+2 }):
  wpAny (model prog w) A (setAttr (.ref x) name v) Q E s:=by
 obtain ⟨od,J,hl⟩:=I.look;refine W.set_plain X J hs (W.osa_open (s:={ s with toks:=s.toks+1 }) (r:=none) X J hp ht λb=>?_);obtain ⟨cd,hc,hd'⟩:=W.any_some hh;have hx:s.heap.get? x=some ⟨.ref C,some dx,.plain,#[]⟩:=I.obj;refine ad (am (ad (ad (wpAny_loadPart hx (ad (W.Looks.here (s:={ s with toks:=s.toks+1 }) (W.looks_clsIn X hc) ?_))))));rw[hd'];refine am (a:=some dx) (ad (am (ad ?_)));refine wpAny_nsSet1 (s:={ s with toks:=s.toks+1 }) I.ns λh' hn2 hs2=>?_
 obtain ⟨oD,esD,epD,hoD,hdD,hcD⟩:=hn2.count (PySem.Within.cons name v hw);refine ad (wpAny_lookBehind hoD (by rw[hdD];exact pastItsLine_dict (Nat.le_trans hcD (by rw[length_cons];omega))) ?_);exact am (h _ ⟨(hs2.2 _ (Ne.symm I.ne)).trans I.obj,hn2,I.ne⟩ hs2)
def yh {R:Result->Shared->Prop}{vs:List Value}(X:K.In s.heap)(hm:W.makesIn K C=true)
  (hi:W.findIn K (.ref C) "__init__"=some (some (.ref f))) (hf:W.typeIn K (.ref f)=some (.type "function"))
  (h:codeAny (model prog w) (A.under (.builtin "type.__call__" ⟨.ref C::vs,kw⟩)) (.call (.ref f) ⟨.ref (s.heap.objs.size+1)::vs,kw⟩) (W.InitBack (s.heap.objs.size+1) R)
   { s with heap:=(s.heap.push W.emptyDict).push (W.instObj C s.heap.objs.size) }):
  codeAny (model prog w) A (.call (.ref C) ⟨vs,kw⟩) R s:=by
 obtain ⟨hh,g,d,t,os⟩:=s;exact W.make_core (W.makes_of X hm) (W.looks_findIn X hi) (λself=>W.bind_fn X self hf) (.inl rfl) h
end
abbrev cX (f:Str)(v:V):List (Str×V)->List (Str×V)
 | []=>[(f,v)]
 |(g,x)::r=>if g=f then (g,v)::r else (g,x)::cX f v r
def fh (f g:Str)(v:V):∀ fs:List (Str×V),(cX f v fs).lookup g=if g=f then some v else fs.lookup g
 | []=>by
  show List.lookup g [(f,v)]=_
  by_cases h:g=f
  ·have hb:(g ==f)=true:=beq_iff_eq.mpr h;simp only[List.lookup,hb,if_pos h]
  ·have hb:(g ==f)=false:=beq_eq_false_iff_ne.mpr h;simp only[List.lookup,hb,if_neg h]
 |(k,x)::r=>by
  have ih:=fh f g v r;rw[show cX f v ((k,x)::r)=(if k=f then (k,v)::r else (k,x)::cX f v r) from rfl]
  by_cases hk:k=f
  ·rw[if_pos hk]
   by_cases h:g=k
   ·have hb:(g ==k)=true:=beq_iff_eq.mpr h;simp only[List.lookup,hb,if_pos (h.trans hk)]
   ·have hb:(g ==k)=false:=beq_eq_false_iff_ne.mpr h;simp only[List.lookup,hb,if_neg (λe:g=f=>h (e.trans hk.symm))]
  ·rw[if_neg hk]
   by_cases h:g=k
   ·have hb:(g ==k)=true:=beq_iff_eq.mpr h;simp only[List.lookup,hb,if_neg (λe:g=f=>hk (h.symm.trans e))]
   ·have hb:(g ==k)=false:=beq_eq_false_iff_ne.mpr h;simp only[List.lookup,hb];exact ih
def dv (f:Str)(v:V):∀ fs:List (Str×V),f ∈ (cX f v fs).map (·.1)/\∀ g,g ∈ fs.map (·.1)->g ∈ (cX f v fs).map (·.1)
 | []=>⟨by simp[cX],λg h=>by simp at h⟩
 |(k,x)::r=>by
  obtain ⟨i1,i2⟩:=dv f v r;rw[show cX f v ((k,x)::r)=(if k=f then (k,v)::r else (k,x)::cX f v r) from rfl]
  by_cases hk:k=f
  ·rw[if_pos hk];subst hk;exact ⟨by simp,λg h=>by simpa using h⟩
  ·rw[if_neg hk];refine ⟨?_,λg h=>?_⟩
   ·rw[map_cons];exact dL _ i1
   ·rw[map_cons] at h⊢;rcases nb.mp h with e|e
    ·exact nb.mpr (.inl e)
    ·exact dL _ (i2 g e)
def fv (f:Str)(v:V):∀ fs:List (Str×V),(cX f v fs).length<=fs.length+1
 | []=>by simp[cX]
 |(k,x)::r=>by
  have ih:=fv f v r;rw[show cX f v ((k,x)::r)=(if k=f then (k,v)::r else (k,x)::cX f v r) from rfl]
  by_cases hk:k=f
  ·rw[if_pos hk,length_cons,length_cons];omega
  ·rw[if_neg hk,length_cons,length_cons];omega
def dz.some_of {o:Option Value}(r:dz (some v) o):∃ u,o=some u/\RelV v u:=by
 cases o with
 |none=>exact (show False from r).elim
 |some u=>exact ⟨u,rfl,r⟩
def dz.none_of {o:Option Value}(r:dz none o):o=none:=by
 cases o with
 |none=>rfl
 |some u=>exact (show False from r).elim
def nF (r:RelV v u):W.handedIn u=true:=by
 cases v with
 |non=>cases (show u=Value.none from r);rfl
 |bl b=>cases (show u=Value.bool b from r);rfl
 |int i=>obtain ⟨t,e⟩:=(show ∃ t,u=Value.int i t from r);cases e;rfl
 |str x=>obtain ⟨t,e⟩:=(show ∃ t,u=Value.str x t from r);cases e;rfl
 |byt b=>obtain ⟨t,e⟩:=(show ∃ t,u=Value.bytes b t from r);cases e;rfl
 |flt b=>obtain ⟨t,e⟩:=(show ∃ t,u=Value.float b t from r);cases e;rfl
 |ref a=>cases (show u=Value.ref a from r);rfl
 |ty n=>cases (show u=Value.type n from r);rfl
section
variable {P:Program}{w:World}{H H':Hp}{h h':Heap}{a C dx:Addr}{fs fs':List (Str×V)}
def hU (hok:gq P w H h)(e:H a=some (.ins C dx fs)):∃ mA,uu h a dx C mA/\(∀ f,dz (fs.lookup f) (mA f))/\PySem.Within mA (fs.map (·.1))/\fs.length<=1000/\H dx=some (.own a):=by
 obtain ⟨d,z,ne,ob,mA,n,r,q⟩:=(show aL P w H h a (.ins C dx fs) from hok a _ e);exact ⟨mA,⟨ob,n,ne⟩,r,q,z,d⟩
end
structure DQ (K:W.Frag) (C:Addr):Prop where
 pg:W.plainGet K C Str.empty=true
 hd:W.hasDictIn K C=true
 po:W.plainOver K C=true
 sa:W.findIn K (.ref C) "__setattr__"=some (some (.builtin "object.__setattr__"))
def DQ.get {K:W.Frag}(c:DQ K C)(f:Str):W.plainGet K C f=true:=c.pg
abbrev ft (K:W.Frag)(C:Addr)(f:Str):Prop:=W.findIn K (.ref C) f=some none
def ft.JG {K:W.Frag}{f:Str}(n:ft K C f):W.takerIn K C f=some none:=by
 unfold W.takerIn;rw[show W.findIn K (.ref C) f=some none from n]
 rfl
structure Meth (K:W.Frag) (C:Addr) (m:Str) (f:Addr):Prop where
 at_:W.findIn K (.ref C) m=some (some (.ref f))
 fn:W.isFn K (.ref f)=true
 kp:W.keepIn K (.ref f)=true
section
variable {X:Cx}{Y:ND}{U:St}{H:Hp}{s:Shared}{a C dx:Addr}{fs:List (Str×V)}{f:Str}{v:V}{A:Around}{E:NC}
def tT {b:Bool}(I:Inv X Y U H s)(e:H a=some (.ins C dx fs))(c:DQ X.K C)(n:ft X.K C f)(l:fs.lookup f=some v)
  (h:∀ u s',Inv X Y U H s'->RelV v u->Q u s'):wpAny (model X.prog X.w) A (getAttr (.ref a) f b) Q E s:=by
 obtain ⟨mA,O,r,_,_,_⟩:=hU I.hok e;obtain ⟨u,hu,ru⟩:=dz.some_of (v:=v) (o:=mA f) (by rw[<-l];exact r f);exact get_map I.b6 O (c.get f) c.hd n hu (nF ru) (h u _ (I.tok _) ru)
def sL {m:Str}{g:Addr}{Q:Value×List Value->Shared->Prop}(I:Inv X Y U H s)(e:H a=some (.ins C dx fs))(c:DQ X.K C)(k:Meth X.K C m g)(l:fs.lookup m=none)
  (h:Q (.ref g,[.ref a]) s):wpAny (model X.prog X.w) A (getMethod (.ref a) m pl) Q E s:=by
 obtain ⟨mA,O,r,_,_,_⟩:=hU I.hok e;have hn:mA m=none:=dz.none_of (by rw[<-l];exact r m);exact yz I.b6 O (c.get m) k.at_ k.fn hn h
def t5 {y:V}{Q:NB}(I:Inv X Y U H s)(e:H a=some (.ins C dx fs))(c:DQ X.K C)(n:ft X.K C f)(hl:fs.length<1000)(ry:RelV y u)
  (h:∀ s',Inv X Y U (upd H a (.ins C dx (cX f y fs))) s'->Q () s'):wpAny (model X.prog X.w) A (setAttr (.ref a) f u) Q E s:=by
 obtain ⟨mA,O,r,wi,_,ho⟩:=hU I.hok e;have hz:(fs.map (·.1)).length<=bn:=by rw[ce,sizeLine_eq];omega
 refine c4 I.b6 O c.sa c.po n.JG c.hd wi hz λh' O' sb=>h _ ?_
 have hd:∃ o,h'.get? dx=some o:=let ⟨o,_,_,e',_⟩:=O'.ns;⟨o,e'⟩;refine I.write (x:=a) (e:=dx) (by rw[e];exact True.intro) (.inr ho) (λb q hb z=>(sb.2 b hb).trans z) hd ?_;refine ⟨by rw[ah O.ne];exact ho,?_,O.ne,O'.obj,_,O'.ns,λg=>?_,λg hg=>?_⟩
 ·have:=fv f y fs;omega
 ·show dz ((cX f y fs).lookup g) (if g=f then some u else mA g);rw[fh]
  by_cases q:g=f
  ·rw[if_pos q,if_pos q];exact ry
  ·rw[if_neg q,if_neg q];exact r g
 ·by_cases q:g=f
  ·rw[q];exact (dv f y fs).1
  ·refine (dv f y fs).2 g (wi g λz=>hg ?_);show (if g=f then some u else mA g)=none;rw[if_neg q];exact z
def Inv.made (I:Inv X Y U H s):Inv X Y U (upd (upd H s.heap.objs.size (.own (s.heap.objs.size+1))) (s.heap.objs.size+1) (.ins C s.heap.objs.size []))
  { s with heap:=(s.heap.push W.emptyDict).push (W.instObj C s.heap.objs.size) }:=by
 have e1:(s.heap.push W.emptyDict).get? s.heap.objs.size=some W.emptyDict:=v4 s.heap rfl;have e2:((s.heap.push W.emptyDict).push (W.instObj C s.heap.objs.size)).get? (s.heap.objs.size+1)=some (W.instObj C s.heap.objs.size):=by
  have:=v4 (s.heap.push W.emptyDict) (o:=W.instObj C s.heap.objs.size) rfl
  rwa [Heap.size_push] at this
 have e3:(s.heap.push W.emptyDict).Ns s.heap.objs.size (λ_=>none):=⟨W.emptyDict,#[],_,e1,rfl,(λe he=>absurd he (by simp)),λ_=>rfl⟩;have I1:=I.laid (a:=s.heap.objs.size) (o:=.own (s.heap.objs.size+1)) (h':=s.heap.push W.emptyDict) (t':=s.toks) (λb u q=>ul _ q) (re _) ⟨_,e1⟩;refine I1.laid (a:=s.heap.objs.size+1) (o:=.ins C s.heap.objs.size []) (t':=s.toks) (λb u q=>ul _ q) (Nat.le_of_eq (Heap.size_push _ _)) ?_;have ne:s.heap.objs.size≠s.heap.objs.size+1:=pi (Nat.lt_succ_self _);refine ⟨by rw[ah ne,aA],Nat.zero_le _,ne,e2,λ_=>none,(Heap.Ns1.of_empty e3).at λo q=>ul _ q,λ_=>True.intro,λy hy=>absurd rfl hy⟩
def B0 {prog:Program}{env:Env}(hb:attributeBase e f env (eval e env)=eval e env)
  (h:wpAny (model prog w) A (eval e env) (λo s₁=>wpAny (model prog w) A (getAttr o f true) Q E s₁) E s):wpAny (model prog w) A (eval (.Attribute e f pos) env) Q E s:=
 Attribute_any_ h (by rw[arm_eval_Attribute,hb])
end
section
variable {X:Cx}{o e value:Expr}{f:Str}{pos pos' tpos:Pos}{ta tv:TE}
end
section
variable {X:Cx}{Y:ND}{U:St}{H:Hp}{s:Shared}{A:Around}{E:NC}{Q:NC}{c:Value}{b:Bool}
inductive i7 (K:W.Frag) (H:Hp):V->Value->Prop where
 |non:i7 K H .non (.type "NoneType")
 |bl (x:Bool):i7 K H (.bl x) (.type "bool")
 |int (i:Int):i7 K H (.int i) (.type "int")
 |str (x:Str):i7 K H (.str x) (.type "str")
 |flt (x:UInt64):i7 K H (.flt x) (.type "float")
 |lst {a:Addr}{xs:List V}(e:H a=some (.lst xs)):i7 K H (.ref a) (.type "list")
 |frz {a:Addr}{o:Obj}{xs:List V}(e:H a=some (.frz o (.lst xs))):i7 K H (.ref a) (.type "list")
 |tup {a:Addr}{xs:List V}(e:H a=some (.tup xs)):i7 K H (.ref a) (.type "tuple")
 |dK {a:Addr}{kvs:List (Key×V)}(e:H a=some (.dK kvs)):i7 K H (.ref a) (.type "dict")
 |dT {a:Addr}{kvs:List (List Key×V)}(e:H a=some (.dT kvs)):i7 K H (.ref a) (.type "dict")
 |ins {a C dx:Addr}{fs:List (Str×V)}(e:H a=some (.ins C dx fs)) (cl:DQ K C) (ha:W.findIn K (.ref C) "__class__"=some (some (.builtin "object.__class__")))
   (hn:W.specialIn K (.builtin "object.__class__") "__get__"=some (some (.builtin "getset_descriptor.__get__"))) (htk:W.takesIn K (.builtin "object.__class__")=some true)
   (hm:W.mroIn K C (.type "object")=some true):i7 K H (.ref a) (.ref C)
def i5 {x:V}{t:Value}(I:Inv X Y U H s)(rx:RelV x u)(ty:i7 X.K H x t)(e:W.kitOne X.K t c=some b)(h:∀ tk,Q (.bool b) { s with toks:=tk }):
  wpAny (model X.prog X.w) A (call (.builtin "isinstance") [u,c]) Q E s:=by
 cases ty with
 |non=>cases (show u=Value.none from rx);exact W.kia_one W.kitx_none I.b6 True.intro e (λz=>nomatch z) h
 |bl y=>cases (show u=Value.bool y from rx);exact W.kia_one W.kitx_bool I.b6 True.intro e (λz=>nomatch z) h
 |int i=>obtain ⟨t,q⟩:=(show ∃ t,u=Value.int i t from rx);cases q;exact W.kia_one W.kitx_int I.b6 True.intro e (λz=>nomatch z) h
 |str y=>obtain ⟨t,q⟩:=(show ∃ t,u=Value.str y t from rx);cases q;exact W.kia_one W.kitx_str I.b6 True.intro e (λz=>nomatch z) h
 |flt y=>obtain ⟨t,q⟩:=(show ∃ t,u=Value.float y t from rx);cases q;exact W.kia_one W.kitx_float I.b6 True.intro e (λz=>nomatch z) h
 | @lst a xs ea=>
  cases (show u=Value.ref a from rx);obtain ⟨_,_,n,_,h1⟩:=(show aL X.prog X.w H s.heap a (.lst xs) from I.hok a _ ea);exact W.kia_one W.kitx_list I.b6 ⟨_,h1,rfl⟩ e (λz=>nomatch z) h
 | @frz a ob xs ea=>
  cases (show u=Value.ref a from rx);obtain ⟨_,_,_,n,_,h1⟩:=(show aL X.prog X.w H s.heap a (.frz ob (.lst xs)) from I.hok a _ ea);exact W.kia_one W.kitx_list I.b6 ⟨_,h1,rfl⟩ e (λz=>nomatch z) h
 | @tup a xs ea=>
  cases (show u=Value.ref a from rx);obtain ⟨_,_,_,p⟩:=(show aL X.prog X.w H s.heap a (.tup xs) from I.hok a _ ea);obtain ⟨o,h1,h2,_⟩:=p;exact W.kia_one W.kitx_tuple I.b6 ⟨o,h1,h2⟩ e (λz=>nomatch z) h
 | @dK a kvs ea=>
  cases (show u=Value.ref a from rx);obtain ⟨_,_,vs,_,p⟩:=(show aL X.prog X.w H s.heap a (.dK kvs) from I.hok a _ ea);obtain ⟨o,es,ep,h1,h2,_⟩:=p;exact W.kia_one W.kitx_dict I.b6 ⟨o,h1,h2.1⟩ e (λz=>nomatch z) h
 | @dT a kvs ea=>
  cases (show u=Value.ref a from rx);obtain ⟨_,_,xs,_,o,es,ep,h1,h2,_⟩:=(show aL X.prog X.w H s.heap a (.dT kvs) from I.hok a _ ea);exact W.kia_one W.kitx_dict I.b6 ⟨o,h1,h2.1⟩ e (λz=>nomatch z) h
 | @ins a C dx fs ea cl ha hn htk hm=>
  cases (show u=Value.ref a from rx);obtain ⟨mA,O,_⟩:=hU I.hok ea;obtain ⟨od,J,_⟩:=O.look;exact W.kia_one (W.kitx_own (cl.get _) cl.hd ha hn htk hm) I.b6 J e (λz=>nomatch z) h
end
structure bU (k:Nat) (A:Around):Prop where
 hd:A.handled=none
 dp:A.depth+3*k+5<recursionLimit
 un:A.units+16*k+200<cLine
def bU.mono {j:Nat}(r:bU k A)(h:j<=k):bU j A:=⟨r.hd,by have:=r.dp;omega,by have:=r.un;omega⟩
def bU.deeper (r:bU (k+1) A)(env:Env):bU k (A.deeper env):=
 ⟨r.hd,by have:=r.dp;show A.depth+1+3*k+5<_;omega,by have:=r.un;show A.units+3+16*k+200<_;omega⟩
def sX:(A.under (.builtin "type.__call__" ⟨.ref C::us,kw⟩)).depth=A.depth+1:=by
 first|rfl|simp[Around.under,Code.weight,Code.isCreation,Code.isGuard,Code.isCaller,Code.frames,Code.isFrame,guardIds]
def ug:(A.under (.builtin "type.__call__" ⟨.ref C::us,kw⟩)).units=A.units+1:=by
 first|rfl|simp[Around.under,Code.cUnits,Code.frames,Code.isFrame]
def bU.make (r:bU (k+1) A)(C:Addr)(us:List Value)(kw:List (Str×Value)):bU k (A.under (.builtin "type.__call__" ⟨.ref C::us,kw⟩)):=
 ⟨r.hd,by have:=r.dp;rw[sX];omega,by have:=r.un;rw[ug];omega⟩
def bU.depth (r:bU k A):A.depth<recursionLimit:=by have:=r.dp;omega
abbrev Ca:TA:=λ_ H Q=>Q [] H
abbrev EF (ta:TE)(tr:TA):TA:=λU H Q=>ta U H λx H1=>tr U H1 λxs H2=>Q (x::xs) H2
section
variable {X:Cx}{e:Expr}{es:List Expr}{te:TE}{t:TA}{pos:Pos}
def gp:PA X [] Ca:=λ_ _ _ _ H Q I h=>Calls.spliced_nil ⟨[],H,I,.nil,h⟩
def Dv (ha:PE X e te)(hr:PA X es t)(hs:bm (e::es) X.env=(false,eval e X.env)::bm es X.env:=by rfl):PA X (e::es) (EF te t):=by
 intro pos Y s U H Q I h;rw[hs];show wpAny _ _ (spliced ((false,eval e X.env)::backTo pos (bm es X.env))) _ _ s;refine Calls.spliced_cons (aC (ha Y s U H _ I h) λu s1 ⟨x,H1,I1,r1,q1⟩=>?_);exact aC (hr pos Y s1 U H1 _ I1 q1) λus s2 ⟨xs,H2,I2,r2,q2⟩=>⟨x::xs,H2,I2,.cons r1 r2,q2⟩
abbrev L9 (t:TA):TE:=λU H Q=>t U H λxs H1=>xs.length<=bn/\∀ p,H1 p=none->Q (.ref p) (upd H1 p (.tup xs))
abbrev Lk (t:TA):TE:=λU H Q=>t U H λxs H1=>xs.length<=bn/\∀ p,H1 p=none->Q (.ref p) (upd H1 p (.lst xs))
def HC {x1} (h:PA X es t):PE X (.Tuple es x1 pos) (L9 t):=by
 intro Y s U H Q I hq;refine wpAny_Tuple_spliced (aC (h pos Y s U H _ I hq) λus s1 ⟨xs,H1,I1,r,z,q⟩=>⟨by rw[<-r.length];exact z,?_⟩);have hf:H1 s1.heap.objs.size=none:=I1.hok.fresh (re _);refine ⟨.ref s1.heap.objs.size,upd H1 s1.heap.objs.size (.tup xs),I1.laid (t':=s1.toks) (λb u e=>ul _ e) (re _) ?_,rfl,q _ hf⟩;exact ⟨z,us,r,⟨_,v4 _ rfl,rfl,_,rfl⟩⟩
def Gz (h:PA X es t):PE X (.List es pos) (Lk t):=by
 intro Y s U H Q I hq;refine wpAny_List_spliced (aC (h pos Y s U H _ I hq) λus s1 ⟨xs,H1,I1,r,z,q⟩=>⟨by rw[<-r.length];exact z,?_⟩);have hf:H1 s1.heap.objs.size=none:=I1.hok.fresh (re _);refine ⟨.ref s1.heap.objs.size,upd H1 s1.heap.objs.size (.lst xs),I1.laid (t':=s1.toks) (λb u e=>ul _ e) (re _) ?_,rfl,q _ hf⟩;exact ⟨z,us,0,r,v4 _ rfl⟩
end
@[reducible]def Sp:=List V->Hp->VK->XK->Prop
@[reducible]def uI:=List Env->Hp->Shared->XK->Value->Shared->Prop
structure uk (P:Program) (w:World) (K:W.Frag) (mg:NF) (base:Heap) (A:Around) (outer:List Env) (s:Shared) (H:Hp):Prop where
 frames:A.frames=some outer
 mod:Mod K mg base
 bs:∀ b o,base.get? b=some o->s.heap.get? b=some o/\H b=none
 bsz:base.objs.size<=s.heap.objs.size
 j6:s.heap.FunFrames base outer
 frf:∀ b ∈ pD outer,H b=none
 hok:gq P w H s.heap
 bare:AllBare s.gens
abbrev CE (outer:List Env)(P:Program)(w:World)(H:Hp)(s:Shared)(Q:VK)(u:Value)(s':Shared):Prop:=
 ∃ v H',s'.os=s.os/\AllBare s'.gens/\Un (pD outer) [] H H' s.heap s'.heap/\gq P w H' s'.heap/\RelV v u/\Q v H'
abbrev CR (CX:uI)(outer:List Env)(P:Program)(w:World)(H:Hp)(s:Shared)(Q:VK)(E:XK)(r:Result)(s':Shared):Prop:=
 match r with
 | .ok (.ret u)=>CE outer P w H s Q u s'
 | .ok _=>False
 | .error e=>CX outer H s E e s'
structure dm (P:Program) (w:World) (K:W.Frag) (mg:NF) (base:Heap) (CX:uI) (k:Nat) (f:Addr) (fd:FuncData) (ps:List Str) (sp:Sp):Prop where
 len:∀ vs H Q E,sp vs H Q E->vs.length=ps.length
 run:∀ (A:Around) (outer:List Env) (s:Shared) (H:Hp) (args:Args) (us:List Value) (vs:List V) (Q:VK) (E:XK),bU k A->uk P w K mg base A outer s H->BindsTo s fd args (ps.zip us)->Vals vs us->sp vs H Q E->
  codeAny (model P w) A (.call (.ref f) args) (CR CX outer P w H s Q E) s
variable {mg:NF}{base:Heap}{CX:uI}{fd:FuncData}{ps:List Str}
def dm.imp {K:W.Frag}{f:Addr}{sp sp':Sp}(F:dm P w K mg base CX k f fd ps sp)
  (h:∀ vs H Q E,sp' vs H Q E->sp vs H Q E):dm P w K mg base CX k f fd ps sp':=
 ⟨λvs H Q E q=>F.len vs H Q E (h _ _ _ _ q),λA outer s H args us vs Q E hr he hb hv hs=>F.run A outer s H args us vs Q E hr he hb hv (h _ _ _ _ hs)⟩
variable {outer:List Env}
def uk.make {K:W.Frag}(e:uk P w K mg base A outer s H)(C:Addr)(us:List Value)(kw:List (Str×Value)):
  uk P w K mg base (A.under (.builtin "type.__call__" ⟨.ref C::us,kw⟩)) outer s H:=⟨by first|exact e.frames|(simpa [Around.under,Code.envs,Code.isFrame,pushEnvs] using e.frames),e.mod,e.bs,e.bsz,e.j6,e.frf,e.hok,e.bare⟩
section
variable {X:Cx}{Y:ND}{U:St}{H:Hp}{s s':Shared}
def Inv.jh (I:Inv X Y U H s):uk X.prog X.w X.K X.mg X.base X.A X.stack s H:=
 ⟨I.ok.frames,I.ok.mod,I.bs,Nat.le_trans I.ok.bsz I.sz,I.stack,I.pY,I.hok,I.bare⟩
def Inv.after {Q:VK}(I:Inv X Y U H s)(h:CE X.stack X.prog X.w H s Q u s'):EP X Y U Q u s':=by
 obtain ⟨v,H',os,bare,un,hok,r,q⟩:=h;obtain ⟨hh,g,d,t,os'⟩:=s';obtain rfl:os'=s.os:=os;exact ⟨v,H',I.call (h':=hh) (g':=g) (d':=d) (t':=t) (ch:=[]) un hok bare (λb z=>absurd z (by simp)),r,q⟩
end
abbrev ES (sp:Sp)(dvs:List V)(E:St->XK)(t:TA):TE:=λU H Q=>t U H λvs H1=>sp (vs++dvs) H1 Q (E U)
abbrev EH (C:Addr)(sp:Sp)(dvs:List V)(E:St->XK)(t:TA):TE:=λU H Q=>t U H λvs H1=>∀ x dx,H1 x=none->H1 dx=none->dx≠x->
 sp (.ref x::(vs++dvs)) (upd (upd H1 dx (.own x)) x (.ins C dx [])) (λv H2=>v=.non/\Q (.ref x) H2) (E U)
abbrev Binds (K:W.Frag)(fd:FuncData)(ps:List Str)(ds:List Value):Prop:=
 ∀ (s:Shared) (us:List Value),K.In s.heap->(us++ds).length=ps.length->BindsTo s fd ⟨us,[]⟩ (ps.zip (us++ds))
def Binds.all {K:W.Frag}(h:∀ us:List Value,us.length=ps.length->bindArgs fd ⟨us,[]⟩=pure (ps.zip us)):Binds K fd ps []:=λs us _ hl=>by
 rw[append_nil] at hl⊢;exact .of_eq (h us hl)
abbrev Passes (CX:uI)(X:Cx)(E:St->XK):Prop:=∀ (Y:ND) (U:St) (H:Hp) (s:Shared) (e:Value) (s':Shared),Inv X Y U H s->CX X.stack H s (E U) e s'->X.xe e s'
variable {vs:List V}
section
variable {X:Cx}{CX:uI}{k:Nat}{f C:Addr}{fd:FuncData}{ps:List Str}{sp:Sp}{dvs:List V}{ds:List Value}{E:St->XK}{x m:Str}{p pos apos:Pos}{e o:Expr}{es:List Expr}{ta:TE}{t:TA}
def pZ {Q:VK}(F:dm X.prog X.w X.K X.mg X.base CX k f fd ps sp)(hr:bU k X.A)(hb:Binds X.K fd ps ds)(hd:Vals dvs ds)(hx:Passes CX X E)
  (I:Inv X Y U H s) (r:Vals vs us) (h:sp (vs++dvs) H Q (E U)):wpAny (model X.prog X.w) X.A (call (.ref f) us) (EP X Y U Q) X.xe s:=by
 have r2:Vals (vs++dvs) (us++ds):=r.append hd;have hl:(us++ds).length=ps.length:=by rw[<-r2.length];exact F.len _ _ _ _ h
 refine wpAny_call (codeAny_mono (F.run X.A X.stack s H ⟨us,[]⟩ (us++ds) (vs++dvs) Q (E U) hr I.jh (hb s us I.b6 hl) r2 h) λr s' hq=>?_);cases r with
 |error e=>exact hx Y U H s e s' I hq
 |ok fl=>
  cases fl with
  |ret u=>exact I.after hq
  |next=>exact False.elim hq
  |brk=>exact False.elim hq
  |cont=>exact False.elim hq
def CH (F:dm X.prog X.w X.K X.mg X.base CX k f fd ps sp)(hr:bU k X.A)(hg:Gl X x)(hm:X.mg x=some (.ref f))(hk:W.keepIn X.K (.ref f)=true)(hb:Binds X.K fd ps ds)(hd:Vals dvs ds)(hx:Passes CX X E)
  (ha:PA X (e::es) t) (hdb:(x ==("__debug__":Str))=false:=by decide) (he:bm (e::es) X.env=(false,eval e X.env)::bm es X.env:=by rfl) (hpl:(backTo pos (bm es X.env)).any (·.1)=false:=by rfl):
  PE X (.Call (.Name x p) (e::es) [] pos) (ES sp dvs E t):=by
 intro Y s U H Q I h;refine bv (bN I hg hm ?_ hdb);refine W.callWith_K (h₀:=X.base) I.ok.mod.kin hk (aC (ha pos Y s U H _ I h) λus s1 ⟨vs,H1,I1,r,q⟩=>⟨I1.b6,?_⟩) he hpl;exact pZ F hr hb hd hx I1 r q
def zu (F:dm X.prog X.w X.K X.mg X.base CX k f fd ps sp)(hr:bU k X.A)(hg:Gl X x)(hm:X.mg x=some (.ref f))(hk:W.keepIn X.K (.ref f)=true)(hb:Binds X.K fd ps ds)(hd:Vals dvs ds)(hx:Passes CX X E)
  (hdb:(x ==("__debug__":Str))=false:=by decide):PE X (.Call (.Name x p) [] [] pos) (ES sp dvs E Ca):=by
 intro Y s U H Q I h;refine bv (bN I hg hm ?_ hdb);exact W.callWith_K0 I.b6 hk (pZ (us:=[]) F hr hb hd hx I .nil h)
structure Mk (K:W.Frag) (C f:Addr):Prop where
 makes:W.makesIn K C=true
 init:W.findIn K (.ref C) "__init__"=some (some (.ref f))
 fn:W.isFn K (.ref f)=true
 kp:W.keepIn K (.ref C)=true
def si {Q:VK}(M:Mk X.K C f)(F:dm X.prog X.w X.K X.mg X.base CX k f fd ps sp)(hr:bU (k+1) X.A)(hb:Binds X.K fd ps ds)(hd:Vals dvs ds)
  (hx:Passes CX X E) (I:Inv X Y U H s) (r:Vals vs us)
  (h:∀ x dx,H x=none->H dx=none->dx≠x->sp (.ref x::(vs++dvs)) (upd (upd H dx (.own x)) x (.ins C dx [])) (λv H2=>v=.non/\Q (.ref x) H2) (E U)):
  wpAny (model X.prog X.w) X.A (call (.ref C) us) (EP X Y U Q) X.xe s:=by
 have hq:=h (s.heap.objs.size+1) s.heap.objs.size (I.hok.fresh (Nat.le_succ _)) (I.hok.fresh (re _)) (pi (Nat.lt_succ_self _));have I2:=Inv.made (C:=C) I;have r2:Vals (V.ref (s.heap.objs.size+1)::(vs++dvs)) (Value.ref (s.heap.objs.size+1)::(us++ds)):=.cons rfl (r.append hd);have hl:(Value.ref (s.heap.objs.size+1)::us++ds).length=ps.length:=by
  have e:=r2.length;rw[F.len _ _ _ _ hq] at e;exact e.symm
 refine wpAny_call (yh (f:=f) I.b6 M.makes M.init (beq_iff_eq.mp M.fn) (codeAny_mono (F.run _ X.stack _ _ ⟨Value.ref (s.heap.objs.size+1)::us,[]⟩ (Value.ref (s.heap.objs.size+1)::(us++ds)) _ _ (E U) (hr.make C us [])
  (I2.jh.make C us []) (hb _ (Value.ref (s.heap.objs.size+1)::us) I2.b6 hl) r2 hq) λr s' hq'=>?_))
 cases r with
 |error e=>exact hx Y U _ _ e s' I2 hq'
 |ok fl=>
  cases fl with
  |ret u=>
   obtain ⟨v,H',I3,rv,ev,q3⟩:=I2.after hq';subst ev;exact ⟨rv,⟨V.ref (s.heap.objs.size+1),H',I3,rfl,q3⟩⟩
  |next=>exact False.elim hq'
  |brk=>exact False.elim hq'
  |cont=>exact False.elim hq'
def B8 (M:Mk X.K C f)(F:dm X.prog X.w X.K X.mg X.base CX k f fd ps sp)(hr:bU (k+1) X.A)(hg:Gl X x)(hm:X.mg x=some (.ref C))(hb:Binds X.K fd ps ds)(hd:Vals dvs ds)(hx:Passes CX X E)
  (ha:PA X (e::es) t) (hdb:(x ==("__debug__":Str))=false:=by decide) (he:bm (e::es) X.env=(false,eval e X.env)::bm es X.env:=by rfl) (hpl:(backTo pos (bm es X.env)).any (·.1)=false:=by rfl):
  PE X (.Call (.Name x p) (e::es) [] pos) (EH C sp dvs E t):=by
 intro Y s U H Q I h;refine bv (bN I hg hm ?_ hdb);refine W.callWith_K (h₀:=X.base) I.ok.mod.kin M.kp (aC (ha pos Y s U H _ I h) λus s1 ⟨vs,H1,I1,r,q⟩=>⟨I1.b6,?_⟩) he hpl;exact si M F hr hb hd hx I1 r q
def yF (M:Mk X.K C f)(F:dm X.prog X.w X.K X.mg X.base CX k f fd ps sp)(hr:bU (k+1) X.A)(hg:Gl X x)(hm:X.mg x=some (.ref C))(hb:Binds X.K fd ps ds)(hd:Vals dvs ds)(hx:Passes CX X E)
  (hdb:(x ==("__debug__":Str))=false:=by decide):PE X (.Call (.Name x p) [] [] pos) (EH C sp dvs E Ca):=by
 intro Y s U H Q I h;refine bv (bN I hg hm ?_ hdb);exact W.callWith_K0 I.b6 M.kp (si (us:=[]) M F hr hb hd hx I .nil h)
end
section
variable {X:Cx}{CX:uI}{k:Nat}{f C:Addr}{fd:FuncData}{ps ks:List Str}{sp:Sp}{E:St->XK}{x m:Str}{p pos apos kpos:Pos}{e o:Expr}{es:List Expr}{kws:List Keyword}{te ta:TE}{t tk:TA}{nm:Option Str}
variable {g:List Value->List Value->List Value}{gV:List V->List V->List V}
end
structure kh (N P:List Str) (sc:Scope):Prop where
 kind:sc.kind=.function
 co:sc.isCoroutine=false
 gen:sc.isGenerator=false
 nd:N.Nodup
 pre:N.take P.length=P
 par:∀ x ∈ P,sc.names.lookup x=some .local\/sc.names.lookup x=some .cell
 nofree:∀ y ∈ sc.names,y.2≠.free
def nP {kindOf:Str->Option NameKind}{x:Str}:∀ {binds:List (Str×Value)}{m:NF},(∀ v,(x,v) ∉ binds)->bindL kindOf binds m x=m x
 | [],_,_=>rfl
 |(n,v)::r,m,h=>by
  unfold bindL;rw[nP λw hw=>h w (dL _ hw)]
  split
  ·have:x≠n:=by rintro rfl;exact h v mo
   simp[this]
  ·rfl
def nD {kindOf:Str->Option NameKind}{x:Str}:∀ {binds:List (Str×Value)}{m:NF},(∀ v,(x,v) ∉ binds)->bindC kindOf binds m x=m x
 | [],_,_=>rfl
 |(n,v)::r,m,h=>by
  unfold bindC;rw[nD λw hw=>h w (dL _ hw)]
  split
  ·rfl
  ·have:x≠n:=by rintro rfl;exact h v mo
   simp[this]
def nI {kindOf:Str->Option NameKind}{x:Str}{v:Value}:∀ {P:List Str}{vs:List Value}{i:Nat}{m:NF},P.Nodup->P[i]? =some x->vs[i]? =some v->kindOf x=some .local->
  bindL kindOf (P.zip vs) m x=some v
 | [],_,_,_,_,h,_,_=>by simp at h
 |_::_,[],_,_,_,_,h,_=>by simp at h
 |p::P,w::vs,0,m,nd,h1,h2,hk=>by
  simp at h1 h2;subst h1;subst h2;show bindL kindOf ((p,w)::P.zip vs) m p=_;unfold bindL;rw[nP λv hv=>(nodup_cons.mp nd).1 (of_mem_zip hv).1,if_pos hk];simp
 |p::P,w::vs,i+1,m,nd,h1,h2,hk=>by
  show bindL kindOf ((p,w)::P.zip vs) m x=_;unfold bindL;exact nI (i:=i) (nodup_cons.mp nd).2 (by simpa using h1) (by simpa using h2) hk
def nv {kindOf:Str->Option NameKind}{x:Str}{v:Value}:∀ {P:List Str}{vs:List Value}{i:Nat}{m:NF},P.Nodup->P[i]? =some x->vs[i]? =some v->kindOf x≠some .local->
  bindC kindOf (P.zip vs) m x=some v
 | [],_,_,_,_,h,_,_=>by simp at h
 |_::_,[],_,_,_,_,h,_=>by simp at h
 |p::P,w::vs,0,m,nd,h1,h2,hk=>by
  simp at h1 h2;subst h1;subst h2;show bindC kindOf ((p,w)::P.zip vs) m p=_;unfold bindC;rw[nD λv hv=>(nodup_cons.mp nd).1 (of_mem_zip hv).1,if_neg hk];simp
 |p::P,w::vs,i+1,m,nd,h1,h2,hk=>by
  show bindC kindOf ((p,w)::P.zip vs) m x=_;unfold bindC;exact nv (i:=i) (nodup_cons.mp nd).2 (by simpa using h1) (by simpa using h2) hk
abbrev start (N:List Str)(vs:List V):St:=vs.map some++sK (N.length-vs.length) none
abbrev xU (CX:uI)(P:Program)(w:World)(K:W.Frag)(mg:NF)(base:Heap)(N:List Str)(qual:Str)(scope:Scope)(f:Addr)(cd:Value)(A:Around)(outer:List Env)(s:Shared)(H:Hp)(E:XK):Cx where
 prog:=P
 w:=w
 K:=K
 mg:=mg
 base:=base
 A:=A.deeper (envOfC qual scope s.heap.objs.size f cd)
 N:=N
 s₀:=s
 H₀:=H
 env:=envOfC qual scope s.heap.objs.size f cd
 outer:=outer
 stack:=envOfC qual scope s.heap.objs.size f cd::outer
 ex:=[]
 calm:=true
 fn:=λ_=>true
 pn:=[]
 xe:=λe s'=>wpAny (model P w) (A.deeper (envOfC qual scope s.heap.objs.size f cd)) (leaving (envOfC qual scope s.heap.objs.size f cd) e) (λ_ s''=>CX outer H s E e s'') (λe' s''=>CX outer H s E e' s'') s'
def qC {sc:Scope}{n:Nat}(h:sc.names.lookup x=some .cell):∃ c,(cellsFrom n sc.names []).lookup x=some c:=by
 have q:=W.cellsFrom_some sc.names n [] (.inl h);exact Option.isSome_iff_exists.mp q
variable {scope:Scope}
def xW {K:W.Frag}{N:List Str}{qual:Str}{f:Addr}{cd:Value}{s1:Shared}{E:XK}
  (S:kh N ps scope) (hd:A.handled=none) (e0:uk P w K mg base A outer s H) (hl:vs.length=ps.length) (r:Vals vs us)
  (x:InCallC s s.heap.objs.size (bindL (envOfC qual scope s.heap.objs.size f cd).kindOf (ps.zip us) λ_=>none) (cellsFrom (s.heap.objs.size+1) scope.names []) (bindC (envOfC qual scope s.heap.objs.size f cd).kindOf (ps.zip us) λ_=>none) s1):
  Inv (xU CX P w K mg base N qual scope f cd A outer s H E) [] (start N vs) H s1:=by
 have hpl:ps.length<=N.length:=by have:=congrArg List.length S.pre;rw[db] at this;omega
 obtain ⟨h1,tk,rfl,hk⟩:=x.done;have noA:∀ b:Addr,b ∉ (xU CX P w K mg base N qual scope f cd A outer s H E).ex:=λb z=>absurd (show b ∈ ([]:List Addr) from z) (by simp)
 refine ⟨⟨e0.mod,S.kind,rfl,rfl,re _,λy z c h1 h2=>?_,λy hy=>?_,λy c _ h=>?_,λ_=>hd,Around.frames_deeper e0.frames,.inr ⟨rfl,rfl⟩,λb z=>absurd z (noA b),e0.bs,e0.bsz,λb _ _=>noA b,λb z=>absurd z (noA b),e0.j6,e0.frf⟩,
  rfl,e0.bare,Un.kept hk,⟨_,x.toInCall.ns,λi y v h1 h2 h3=>?_⟩,λy c h=>⟨_,x.cell y c h⟩,e0.hok.fresh (re _),λy c h=>?_,λp hp=>absurd (show p ∈ ([]:ND) from hp) (by simp),e0.hok.kept hk,?_⟩
 ·exact name_of_addr x.apart (PySem.mem_of_lookup h1) (PySem.mem_of_lookup h2)
 ·have hy:scope.names.lookup y=some .cell\/scope.names.lookup y=some .free:=hy;rcases hy with hy|hy
  ·exact qC hy
  ·exact absurd rfl (S.nofree _ (PySem.mem_of_lookup hy))
 ·exact Nat.le_of_lt (x.above y c (PySem.mem_of_lookup h))
 ·have hi:i<vs.length:=by
   unfold start at h2
   by_cases hi:i<vs.length
   ·exact hi
   ·rw[List.getElem?_append_right (by simpa using hi)] at h2;rw[List.getElem?_replicate] at h2
    split at h2<;>cases h2
  have ha:vs[i]? =some v:=by
   unfold start at h2;rw[List.getElem?_append_left (by simpa using hi),io] at h2;cases e:vs[i]? with
   |none=>rw[e] at h2;cases h2
   |some a=>rw[e] at h2;cases h2;rfl
  obtain ⟨u,hu,rv⟩:=r.get ha;have hp:ps[i]? =some y:=by
   rw[<-S.pre,List.getElem?_take_of_lt nofun];exact h1
  have ndP:ps.Nodup:=by rw[<-S.pre];exact S.nd.sublist (take_sublist _ _)
  refine ⟨u,rv,?_⟩;rcases S.par y (cr hp) with k|k
  ·exact .inl ⟨k,nI ndP hp hu k⟩
  ·obtain ⟨c,e⟩:=qC (n:=s.heap.objs.size+1) k;refine .inr ⟨.inl k,c,e,?_⟩;have q:=x.cell y c e;rw[nv ndP hp hu (by show scope.names.lookup y≠_;rw[k];decide)] at q;exact q
 ·exact e0.hok.fresh (Nat.le_of_lt (x.above y c (PySem.mem_of_lookup h)))
 ·unfold start;show _=N.length;rw[ci,ce,List.length_replicate]
  omega
def JJ {K:W.Frag}{f:Addr}{name qual:Str}{params:Arguments}{dV kV doc pm cdv ct oc:Value}{an od:Option Addr}
  {osl:Array (Option Value)}{N:List Str}{sp:Sp}(lk:K.lookup f=some ⟨oc,od,.func (W.fnOf name qual params body scope dV kV doc pm an cdv ct),osl⟩) (hcd:W.codeIn K cdv qual=true) (S:kh N ps scope)
  (len:∀ vs H Q E,sp vs H Q E->vs.length=ps.length)
  (hbody:∀ (A:Around) (outer:List Env) (s:Shared) (H:Hp) (vs:List V) (Q:VK) (E:XK),bU k (A.deeper (envOfC qual scope s.heap.objs.size f cdv))->sp vs H Q E->
   ∃ t,BX (xU CX P w K mg base N qual scope f cdv A outer s H E) body t/\t { nx:=λ_ H'=>Q .non H',rt:=Q } (start N vs) H):
  dm P w K mg base CX (k+1) f (W.fnOf name qual params body scope dV kV doc pm an cdv ct) ps sp:=by
 refine ⟨len,λA outer s H args us vs Q E hr e0 hb r hsp=>?_⟩;have hl:=len _ _ _ _ hsp;have KX:K.In s.heap:=e0.mod.kin.keeps λb o e=>(e0.bs b o e).1
 have lim:s.heap.NoLimit:=e0.mod.nolimit.keeps λb o e=>(e0.bs b o e).1
 have hkind:∀ y ∈ ps.zip us,scope.names.lookup y.1=some .local\/(scope.names.lookup y.1=some .cell/\((cellsFrom (s.heap.objs.size+1) scope.names []).lookup y.1).isSome=true):=λ⟨n,v⟩ hy=>by
  rcases S.par n (of_mem_zip hy).1 with q|q
  ·exact .inl q
  ·exact .inr ⟨q,W.cellsFrom_some _ _ _ (.inl q)⟩
 refine codeAny_call_function hr.depth (KX _ _ lk) rfl S.co S.gen rfl (W.codeRec_of KX hcd) (hb _ _ _ _ ?_);refine wpAny_newFunctionEnv_cells S.kind hkind λenv he s1 x=>?_
 subst he;refine ⟨lim.keeps x.toInCall.keep,codeAny_func ?_⟩;obtain ⟨t,ht,hq⟩:=hbody A outer s H vs Q E (hr.deeper _) hsp;have I:Inv (xU CX P w K mg base N qual scope f cdv A outer s H E) [] (start N vs) H s1:=xW S hr.hd e0 hl r x;refine wpAny_mono (ht [] s1 (start N vs) H _ I hq) (λfl s' hs=>?_) λe s' hs=>hs
 have fin:∀ {σ':St}{H':Hp}{v:V}{u:Value},Inv (xU CX P w K mg base N qual scope f cdv A outer s H E) [] σ' H' s'->RelV v u->Q v H'->CE outer P w H s Q u s':=
  λ{σ' H' v u} J rv q=>⟨v,H',J.os,J.bare,J.base,J.hok,rv,q⟩
 cases fl with
 |ret u=>
  obtain ⟨v,σ',H',J,rv,q⟩:=hs;exact fin J rv q
 |next=>
  obtain ⟨σ',H',J,q⟩:=hs;exact fin (v:=V.non) (u:=Value.none) J rfl q
 |brk=>
  obtain ⟨_,_,_,q⟩:=hs;exact False.elim q
 |cont=>
  obtain ⟨_,_,_,q⟩:=hs;exact False.elim q
section
variable {X:Cx}{x:Str}{p pos:Pos}{e:Expr}{es:List Expr}{t:TA}{id T:String}{r:List V->Hp->VK->Prop}
abbrev MG (r:List V->Hp->VK->Prop)(t:TA):TE:=λU H Q=>t U H λvs H1=>r vs H1 Q
def ql (hc:cT X (.builtin id) r)(hg:Gl X x)(hm:X.mg x=none)(hv:bootBuiltins x=some (.builtin id))(ha:PA X (e::es) t)(hn:x≠"__name__":=by decide) (hdb:(x ==("__debug__":Str))=false:=by decide)
  (he:bm (e::es) X.env=(false,eval e X.env)::bm es X.env:=by rfl) (hpl:(backTo pos (bm es X.env)).any (·.1)=false:=by rfl):PE X (.Call (.Name x p) (e::es) [] pos) (MG r t):=by
 intro Y s U H Q I h;refine bv (cS I hg hm hv ?_ hn hdb);exact PyProof.Rows.callWith_builtin1 (aC (ha pos Y s U H _ I h) λus s1 ⟨vs,H1,I1,r1,q1⟩=>hc Y s1 U H1 vs us Q I1 r1 q1) he hpl
def wY (hc:cT X (.type T) r)(hg:Gl X x)(hm:X.mg x=none)(hv:bootBuiltins x=some (.type T))(ha:PA X (e::es) t)(hn:x≠"__name__":=by decide) (hdb:(x ==("__debug__":Str))=false:=by decide)
  (he:bm (e::es) X.env=(false,eval e X.env)::bm es X.env:=by rfl) (hpl:(backTo pos (bm es X.env)).any (·.1)=false:=by rfl):PE X (.Call (.Name x p) (e::es) [] pos) (MG r t):=by
 intro Y s U H Q I h;refine bv (cS I hg hm hv ?_ hn hdb);exact PyProof.Rows.callWith_type1 (aC (ha pos Y s U H _ I h) λus s1 ⟨vs,H1,I1,r1,q1⟩=>hc Y s1 U H1 vs us Q I1 r1 q1) he hpl
end
end L2
namespace HT
open PySem PyProof.Rows
section
open PySem.SeqAt
open PySem.AutoSeq1 (wpAny_loadPart')
open PySem.MeetsSeq PySem.MeetsSeq2 PySem.MeetsSeq3
end
section
variable {prog:Program}{w:World}{A:Around}{E:NC}{s:Shared}
abbrev qv (n d:Nat):Option Int->Nat
 |none=>d
 |some v=>if v<0 then (v+(n:Int)).toNat else min v.toNat n
end
end HT
namespace L2
open PySem PySem.Spec PyProof.Rows
@[reducible]def TO:=St->Hp->(Option Int->Hp->Prop)->Prop
abbrev PO (X:Cx)(e:Option Expr)(t:TO):Prop:=
 ∀ (Y:ND) (s:Shared) (U:St) (H:Hp) (Q:Option Int->Hp->Prop),Inv X Y U H s->t U H Q->
  wpAny (model X.prog X.w) X.A (evalPart e X.env) (λu s'=>∃ o H',Inv X Y U H' s'/\IsPart u o/\Q o H') X.xe s
abbrev CC:TO:=λ_ H Q=>Q none H
abbrev JH (t:TE):TO:=λU H Q=>t U H λx H1=>∃ i,x=.int i/\Q (some i) H1
section
variable {X:Cx}{e:Expr}{te:TE}{lo hi:Option Expr}{tl th:TO}{pos p2:Pos}
def Dc:PO X none CC:=by
 intro Y s U H Q I h;rw[evalPart_none];exact am ⟨none,H,I,.none,h⟩
def BQ (h:PE X e te):PO X (some e) (JH te):=by
 intro Y s U H Q I hw;rw[evalPart_some];refine aC (h Y s U H _ I hw) λu s1 ⟨x,H1,I1,r1,q1⟩=>?_
 obtain ⟨i,rfl,q⟩:=q1;obtain ⟨t,rfl⟩:=r1;exact ⟨some i,H1,I1,.int i t,q⟩
abbrev Kt (X:Cx)(r:V->Option Int->Option Int->Hp->VK->Prop):Prop:=
 ∀ (Y:ND) (s:Shared) (U:St) (H:Hp) (x:V) (v vl vu:Value) (lo hi:Option Int) (sl:Addr) (Q:VK),Inv X Y U H s->RelV x v->s.heap.IsSliceOf sl vl vu .none->IsPart vl lo->IsPart vu hi->r x lo hi H Q->
  ∃ T id,typeLookup (.type T) "__getitem__"=pure (some (.builtin id))/\s.TypeIs v T/\wpAny (model X.prog X.w) X.A (getItem v (.ref sl)) (EP X Y U Q) X.xe s
abbrev MP (r:V->Option Int->Option Int->Hp->VK->Prop)(te:TE)(tl th:TO):TE:=λU H Q=>te U H λx H1=>tl U H1 λl H2=>th U H2 λu H3=>r x l u H3 Q
def yw {r:V->Option Int->Option Int->Hp->VK->Prop}(hr:Kt X r)(he:PE X e te)(hl:PO X lo tl)(hu:PO X hi th):PE X (.Subscript e (.Slice lo hi none p2) pos) (MP r te tl th):=by
 intro Y s U H Q I h;refine Subscript_ (aC (he Y s U H _ I h) λv s1 ⟨x,H1,I1,r1,q1⟩=>?_);refine wpAny_Slice (aC (hl Y s1 U H1 _ I1 q1) λvl s2 ⟨l,H2,I2,pl,q2⟩=>aC (hu Y s2 U H2 _ I2 q2) λvu s3 ⟨u,H3,I3,pu,q3⟩=>?_);rw[evalPart_none];refine am ?_;have I4:Inv X Y U H3 { s3 with heap:=s3.heap.push { cls:=.type "slice",data:=.fields #[vl,vu,.none] } }:=I3.kept (t':=s3.toks) λb ob q=>ul _ q
 obtain ⟨T,id,hT,ht,hg⟩:=hr Y { s3 with heap:=s3.heap.push { cls:=.type "slice",data:=.fields #[vl,vu,.none] } } U H3 x v vl vu l u s3.heap.objs.size Q I4 r1 (Heap.IsSliceOf.new ..) pl pu q3;show wpAny (model X.prog X.w) X.A (subscriptTail e (.Slice lo hi none p2) v (.ref s3.heap.objs.size)) (EP X Y U Q) X.xe { s3 with heap:=s3.heap.push { cls:=.type "slice",data:=.fields #[vl,vu,.none] } };exact tail_any (ops:=[.ref s3.heap.objs.size,v]) ht hT hg (by with_unfolding_all rfl)
abbrev gE (xs:List V)(lo hi:Option Int):List V:=(xs.drop (HT.qv xs.length 0 lo)).take (HT.qv xs.length xs.length hi-HT.qv xs.length 0 lo)
def qV (xs:List V)(lo hi:Option Int):(gE xs lo hi).length<=xs.length:=by
 unfold gE;rw[db,jp]
 omega
end
abbrev zQ (n:Nat)(i:Int):Option Nat:=if 0<=i then (if i<n then some i.toNat else none) else if -(n:Int)<=i then some (i+n).toNat else none
variable {α:Type}
abbrev kG (xs:List α)(i:Int):Option α:=(zQ xs.length i).bind λj=>xs[j]?
variable {n:Nat}
def uQ {i:Int}{j:Nat}(h:zQ n i=some j):seqIndex? i n=some j/\j<n/\ -(n:Int)<=i/\i<n:=by
 unfold zQ at h
 by_cases h0:0<=i
 ·rw[if_pos h0] at h
  by_cases h1:i<n
  ·rw[if_pos h1] at h;have e:i.toNat=j:=Option.some.inj h;exact ⟨by rw[seqIndex_of h0 h1,e],by omega,by omega,h1⟩
  ·rw[if_neg h1] at h;cases h
 ·rw[if_neg h0] at h
  by_cases h1: -(n:Int)<=i
  ·rw[if_pos h1] at h;have e:(i+n).toNat=j:=Option.some.inj h;exact ⟨by rw[seqIndex_neg nofun h1,e],by omega,h1,by omega⟩
  ·rw[if_neg h1] at h;cases h
def aw {xs:List α}{i:Int}{v:α}(h:kG xs i=some v):∃ j,seqIndex? i xs.length=some j/\xs[j]? =some v/\j<xs.length/\ -(xs.length:Int)<=i/\i<xs.length:=by
 unfold kG at h;cases e:zQ xs.length i with
 |none=>rw[e] at h;cases h
 |some j=>
  rw[e] at h;obtain ⟨h1,h2,h3,h4⟩:=uQ e;exact ⟨j,h1,h,h2,h3,h4⟩
def n9 {xs:List α}{j:Nat}{v:α}(h:xs[j]? =some v):kG xs (j:Int)=some v:=by
 have hj:j<xs.length:=(tz.mp h).1;have e:zQ xs.length (j:Int)=some j:=by
  unfold zQ;rw[if_pos nofun,if_pos nofun];simp
 unfold kG;rw[e];exact h
abbrev vg (b:Expr):Prop:=∀ o i,subscripted b false o i=operate [o,i] (getItem o i)
abbrev JR (X:Cx)(r:R2):Prop:=
 ∀ (value slice:Expr) (Y:ND) (s:Shared) (U:St) (H:Hp) (x y:V) (v u:Value) (Q:VK),Inv X Y U H s->RelV x v->RelV y u->r x y H Q->
  subscripted slice false v u=operate [v,u] (getItem v u)->wpAny (model X.prog X.w) X.A (subscriptTail value slice v u) (EP X Y U Q) X.xe s
abbrev KG (X:Cx)(id:String)(r:V->List V->Hp->VK->Prop):Prop:=
 ∀ (Y:ND) (s:Shared) (U:St) (H:Hp) (x:V) (xs:List V) (v:Value) (us:List Value) (Q:VK),Inv X Y U H s->RelV x v->Vals xs us->r x xs H Q->
  wpAny (model X.prog X.w) X.A (call (.builtin id) (v::us)) (EP X Y U Q) X.xe s
variable {Y:ND}{U:St}{H:Hp}{s:Shared}{y:V}{u:Value}
section
variable {X:Cx}{a b:Expr}{ta tb:TE}{pos:Pos}
def Ik {r:R2}(hr:JR X r)(ha:PE X a ta)(hb:PE X b tb)(hs:vg b):PE X (.Subscript a b pos) (KH r ta tb):=by
 intro Y s U H Q I h;exact Subscript_ (Gh ha hb I h λv u s2 x y H2 I2 rx ry q=>hr a b Y s2 U H2 x y v u Q I2 rx ry q (hs _ _))
abbrev Lx (K:W.Frag):R2:=λx y H Q=>∃ p xs i v,x=.ref p/\y=.int i/\aR K H p xs/\kG xs i=some v/\Q v H
abbrev LY (K:W.Frag):R2:=λx y H Q=>∃ p xs i v,x=.ref p/\y=.int i/\aX K H p xs/\kG xs i=some v/\Q v H
def Ec:JR X (Lx X.K):=by
 intro value slice Y s U H x y v u Q I rx ry h hs;obtain ⟨p,xs,i,z,rfl,rfl,hq,he,q⟩:=h;cases rx;obtain ⟨t,rfl⟩:=ry;obtain ⟨its,r,pl,hz⟩:=I.list hq;obtain ⟨j,h1,h2,h3,h4,h5⟩:=aw he;obtain ⟨w,ew,rw'⟩:=r.get h2;have hl:=r.length;have hn:=gk;have fin:EP X Y U Q w s:=⟨z,H,I,rw',q⟩
 by_cases h0:0<=i
 ·have hj:i.toNat=j:=by
   rw[seqIndex_of h0 h5] at h1;exact Option.some.inj h1
  exact item_listR pl.isList h0 nofun (by rw[hj];simpa using ew) fin hs
 ·have hj:(i+(its.toArray.size:Int)).toNat=j:=by
   rw[seqIndex_neg nofun h4] at h1;rw[ii,<-hl];exact Option.some.inj h1
  exact subscriptTail_builtinR (x:=w) pl.isList.typeIs slot_list_getitem.lookup
   (wpAny_getItem_list_neg (Q:=λr s'=>r=w/\EP X Y U Q r s') pl.isList nofun (by rw[ii]<;>omega) nofun (by rw[hj];simpa using ew) ⟨rfl,fin⟩) hs
def HM:JR X (LY X.K):=by
 intro value slice Y s U H x y v u Q I rx ry h hs;obtain ⟨p,xs,i,z,rfl,rfl,hq,he,q⟩:=h;cases rx;obtain ⟨t,rfl⟩:=ry;obtain ⟨its,r,pl,hz⟩:=I.tuple hq;obtain ⟨j,h1,h2,h3,h4,h5⟩:=aw he;obtain ⟨w,ew,rw'⟩:=r.get h2;have hl:=r.length;have hn:=gk;have fin:EP X Y U Q w s:=⟨z,H,I,rw',q⟩;exact subscriptTail_builtinR (x:=w) pl.typeIs slot_tuple_getitem.lookup
  (getItem_tuple (j:=j) (Q:=λr s'=>r=w/\EP X Y U Q r s') pl nofun nofun (by rw[ii,<-hl];exact h1) (by simpa using ew) ⟨rfl,fin⟩) hs
def uo (its:List Value)(n j:Nat)(u:Value):Obj.mapSeq (·.setIfInBounds j u) { cls:=.type "list",data:=.seq its.toArray n }={ cls:=.type "list",data:=.seq (its.set j u).toArray n }:=by
 simp[Obj.mapSeq]
def Inv.lst {Y:ND}{U:St}{H:Hp}{s:Shared}{p:Addr}{xs:List V}(I:Inv X Y U H s)(h:H p=some (.lst xs)):
  ∃ (its:List Value) (n:Nat),Vals xs its/\s.heap.get? p=some { cls:=.type "list",data:=.seq its.toArray n }/\xs.length<=bn:=by
 obtain ⟨z,its,n,r,e⟩:=I.hok p _ h;exact ⟨its,n,r,e,z⟩
def Inv.HK {p:Addr}{xs ys:List V}{its its':List Value}{n':Nat}{f:Obj->Obj}(I:Inv X Y U H s)(h:H p=some (.lst xs))
  (ho:s.heap.get? p=some { cls:=.type "list",data:=.seq its.toArray n }) (hf:f { cls:=.type "list",data:=.seq its.toArray n }={ cls:=.type "list",data:=.seq its'.toArray n' }) (r:Vals ys its') (hz:ys.length<=bn) (t:Nat):
  Inv X Y U (upd H p (.lst ys)) { s with heap:=s.heap.update p f,toks:=t }:=by
 have e:(s.heap.update p f).get? p=some { cls:=.type "list",data:=.seq its'.toArray n' }:=by
  rw[Heap.get?_update_self f ho (by rw[hf]<;>rfl),hf]
 refine I.write (x:=p) (e:=p) (by rw[h];trivial) (.inl rfl) (λb u hb q=>(Heap.get?_update_other _ _ (Ne.symm hb)).trans q) ⟨_,e⟩ ?_;exact ⟨hz,its',n',r,e⟩
abbrev Kf:V->V->V->Hp->(Hp->Prop)->Prop:=λo i v H Q=>∃ p xs k j,o=.ref p/\i=.int k/\H p=some (.lst xs)/\zQ xs.length k=some j/\Q (upd H p (.lst (xs.set j v)))
def set_list:Dq X Kf:=by
 intro Y s U H o i v ov iv u Q I ro ri rv h;obtain ⟨p,xs,k,j,rfl,rfl,hp,hj,q⟩:=h;cases ro;obtain ⟨t,rfl⟩:=ri;obtain ⟨its,n,r,ho,hz⟩:=I.lst hp;obtain ⟨h1,h2,h3,h4⟩:=uQ hj;have hl:=r.length;have hn:=gk;have I':Inv X Y U (upd H p (.lst (xs.set j v))) { s with heap:=s.heap.update p (Obj.mapSeq (·.setIfInBounds j u)) }:=
  I.HK hp ho (uo its n j u) (r.set rv j) (by rw[length_set];exact hz) s.toks
 by_cases h0:0<=k
 ·have hk:k.toNat=j:=by
   rw[seqIndex_of h0 h4] at h1;exact Option.some.inj h1
  exact W.ki_setAt ho h0 nofun (by rw[ii,<-hl];exact h4) (by rw[hk];exact ⟨_,I',q⟩)
 ·have hk:(k+(its.toArray.size:Int)).toNat=j:=by
   rw[seqIndex_neg nofun h3] at h1;rw[ii,<-hl];exact Option.some.inj h1
  exact W.ki_setBack ho nofun (by rw[ii,<-hl];exact h3) nofun (by rw[hk];exact ⟨_,I',q⟩)
def pB (lo hi:Option Int)(n:Nat):(sliceBounds lo hi none n).1=((HT.qv n 0 lo:Nat):Int)/\(sliceBounds lo hi none n).2.1=((HT.qv n n hi:Nat):Int)/\(sliceBounds lo hi none n).2.2=1:=by
 refine ⟨?_,?_,rfl⟩
 ·cases lo with
  |none=>simp[sliceBounds,HT.qv]
  |some i=>
   simp only[sliceBounds,HT.qv,Option.getD_none,show (1:Int)>0 by decide,if_true]
   by_cases h:i<0
   ·simp only[h,if_true]<;>omega
   ·simp only[h,if_false]<;>omega
 ·cases hi with
  |none=>simp[sliceBounds,HT.qv]
  |some i=>
   simp only[sliceBounds,HT.qv,Option.getD_none,show (1:Int)>0 by decide,if_true]
   by_cases h:i<0
   ·simp only[h,if_true]<;>omega
   ·simp only[h,if_false]<;>omega
def mN (its:List Value)(lo hi:Option Int):slicePick its.toArray lo hi none=((its.drop (HT.qv its.length 0 lo)).take (HT.qv its.length its.length hi-HT.qv its.length 0 lo)).toArray:=by
 obtain ⟨h1,h2,h3⟩:=pB lo hi its.toArray.size;unfold slicePick;rw[h1,h2,h3];simp only[sliceRange_one,pick_run,ii]<;>rfl
abbrev Ma (K:W.Frag):V->Option Int->Option Int->Hp->VK->Prop:=λx lo hi H Q=>∃ a xs,x=.ref a/\aR K H a xs/\∀ p,H p=none->Q (.ref p) (upd H p (.lst (gE xs lo hi)))
def BM:Kt X (Ma X.K):=by
 intro Y s U H x v vl vu lo hi sl Q I rx hs pl pu h;obtain ⟨a,xs,rfl,hx,q⟩:=h;cases rx;obtain ⟨its,r,ht,hz⟩:=I.list hx;have hlen:=r.length;refine ⟨"list",_,slot_list_getitem.lookup,ht.isList.typeIs,?_⟩;refine wpAny_getItem_list_slice ht.isList hs pl pu .none (by simp) ?_ (by rw[ii]<;>omega);rw[mN,<-hlen];refine ⟨.ref s.heap.objs.size,_,I.laid (t':=s.toks) (o:=.lst (gE xs lo hi)) (λb ob q=>ul _ q) (re _) ?_,rfl,q _ (I.hok.fresh (re _))⟩;exact ⟨Nat.le_trans (qV xs lo hi) hz,_,0,(r.drop (HT.qv xs.length 0 lo)).take (HT.qv xs.length xs.length hi-HT.qv xs.length 0 lo),v4 _ rfl⟩
abbrev aN:V->Bool
 | .non=>true
 | .bl _=>true
 | .int _=>true
 | .str _=>true
 |_=>false
abbrev dr:V->V->Bool
 | .non,.non=>true
 | .bl a,.bl b=>a ==b
 | .bl a,.int b=>(if a then 1 else 0) ==b
 | .int a,.bl b=>a ==(if b then 1 else 0)
 | .int a,.int b=>a ==b
 | .str a,.str b=>a ==b
 |_,_=>false
def Bb {A:Around}{x:V}{v:Value}(ry:RelV y u)(rx:RelV x v)(fy:aN y=true)(fx:aN x=true):SeqAt.EqAt A s u v (dr y x):=by
 cases y with
 |non=>
  cases ry;cases x with
  |non=>cases rx;exact SeqAt.EqAt.same _
  |bl b=>cases rx;exact SeqAt.EqAt.none_bool b
  |int b=>obtain ⟨t,rfl⟩:=rx;exact SeqAt.EqAt.none_int b t
  |str b=>obtain ⟨t,rfl⟩:=rx;exact SeqAt.EqAt.none_str b t
  |_=>exact absurd (show false=true from fx) Bool.false_ne_true
 |bl a=>
  cases ry;cases x with
  |non=>cases rx;exact SeqAt.EqAt.bool_none a
  |bl b=>cases rx;exact SeqAt.EqAt.bool_bool a b
  |int b=>obtain ⟨t,rfl⟩:=rx;exact SeqAt.EqAt.bool_int a b t
  |str b=>obtain ⟨t,rfl⟩:=rx;exact SeqAt.EqAt.bool_str a b t
  |_=>exact absurd (show false=true from fx) Bool.false_ne_true
 |int a=>
  obtain ⟨t',rfl⟩:=ry;cases x with
  |non=>cases rx;exact SeqAt.EqAt.int_none a t'
  |bl b=>cases rx;exact SeqAt.EqAt.int_bool a t' b
  |int b=>obtain ⟨t,rfl⟩:=rx;exact SeqAt.EqAt.int_int a t' b t
  |str b=>obtain ⟨t,rfl⟩:=rx;exact SeqAt.EqAt.int_str a t' b t
  |_=>exact absurd (show false=true from fx) Bool.false_ne_true
 |str a=>
  obtain ⟨t',rfl⟩:=ry;cases x with
  |non=>cases rx;exact SeqAt.EqAt.str_none a t'
  |bl b=>cases rx;exact SeqAt.EqAt.str_bool a t' b
  |int b=>obtain ⟨t,rfl⟩:=rx;exact SeqAt.EqAt.str_int a t' b t
  |str b=>obtain ⟨t,rfl⟩:=rx;exact SeqAt.EqAt.str_str a t' b t
  |_=>exact absurd (show false=true from fx) Bool.false_ne_true
 |_=>exact absurd (show false=true from fy) Bool.false_ne_true
abbrev DY (x:V)(u:Value):Bool:=match u with
 | .none=>dr .non x
 | .bool b=>dr (.bl b) x
 | .int i _=>dr (.int i) x
 | .str z _=>dr (.str z) x
 |_=>false
def yI {x:V}(r:RelV y u)(f:aN y=true):DY x u=dr y x:=by
 cases y with
 |non=>cases r;rfl
 |bl b=>cases r;rfl
 |int i=>obtain ⟨t,rfl⟩:=r;rfl
 |str z=>obtain ⟨t,rfl⟩:=r;rfl
 |_=>exact absurd (show false=true from f) Bool.false_ne_true
def oa {x:V}:∀ {xs:List V}{us:List Value},Vals xs us->xs.all aN=true->us.any (DY x)=xs.any λy=>dr y x
 |_,_,.nil,_=>rfl
 |y::xs,u::us,.cons r t,f=>by
  rw[all_cons,nl] at f;rw[any_cons,any_cons,yI r f.1,oa t f.2]
def lu {A:Around}{s:Shared}{x:V}{v:Value}(rx:RelV x v)(fx:aN x=true):∀ {xs:List V}{us:List Value},Vals xs us->xs.all aN=true->∀ u ∈ us,SeqAt.EqAt A s u v (DY x u)
 |_,_,.nil,_=>λu hu=>by cases hu
 |y::xs,u::us,.cons r t,f=>λu' hu=>by
  rw[all_cons,nl] at f;rcases nb.mp hu with rfl|hu
  ·rw[yI r f.1];exact Bb r rx f.1 fx
  ·exact lu rx fx t f.2 u' hu
abbrev CG (x:V)(xs:List V):Bool:=xs.any λy=>dr y x
abbrev M7 (K:W.Frag)(neg:Bool):R2:=λx y H Q=>∃ p xs,y=.ref p/\(aR K H p xs\/aX K H p xs)/\aN x=true/\xs.all aN=true/\Q (.bl (if neg then !CG x xs else CG x xs)) H
def wa:cV X (compareOp .In) (M7 X.K false):=by
 intro Y s U H x y v u Q I rx ry h;obtain ⟨p,xs,rfl,hq,fx,fs,q⟩:=h;cases ry;rcases hq with hq|hq
 ·obtain ⟨its,r,pl,hz⟩:=I.list hq;refine SeqAt.in_listAt (DY x) pl.isList (λw hw=>lu rx fx r fs w (by simpa using hw)) ⟨.bl _,H,I,rfl,?_⟩;rw[show its.toArray.any (DY x)=its.any (DY x) by simp,oa r fs];exact q
 ·obtain ⟨its,r,pl,hz⟩:=I.tuple hq;refine SeqAt.in_tupleAt (DY x) pl (λw hw=>lu rx fx r fs w (by simpa using hw)) ⟨.bl _,H,I,rfl,?_⟩;rw[show its.toArray.any (DY x)=its.any (DY x) by simp,oa r fs];exact q
def pH:cT X (.type "list") (λxs H Q=>∃ p ys,xs=[.ref p]/\(aR X.K H p ys\/aX X.K H p ys)/\∀ l,H l=none->Q (.ref l) (upd H l (.lst ys))):=by
 intro Y s U H xs us Q I r h;obtain ⟨p,ys,rfl,hq,q⟩:=h;obtain ⟨u,rfl,rx⟩:=vals1 r;cases rx;have fin:∀ (its:List Value),Vals ys its->ys.length<=bn->∀ (h':Heap) (c':Nat),(∀ b o',s.heap.get? b=some o'->h'.get? b=some o')->
   h'.get? s.heap.objs.size=some { cls:=.type "list",dict:=none,data:=.seq its.toArray c',slots:=#[] }->EP X Y U Q (.ref s.heap.objs.size) { s with heap:=h' }:=λits r' hz h' c' kp e=>
  ⟨.ref s.heap.objs.size,_,I.laid (t':=s.toks) kp (re _) (show aL X.prog X.w _ h' _ (.lst ys) from ⟨hz,its,c',r',e⟩),rfl,q _ (I.hok.fresh (re _))⟩
 rcases hq with hq|hq
 ·obtain ⟨its,r',pl,hz⟩:=I.list hq;have hlen:=r'.length;obtain ⟨o,ho,hc,n,hd⟩:=pl.isList;exact call_list_seq p (.inl rfl) ho hc hd (λh' c' kp e=>fin its r' hz h' c' kp e) (by simp only[ii]<;>omega)
 ·obtain ⟨its,r',pl,hz⟩:=I.tuple hq;have hlen:=r'.length;obtain ⟨o,ho,hc,n,hd⟩:=pl;exact call_list_seq p (.inr rfl) ho hc hd (λh' c' kp e=>fin its r' hz h' c' kp e) (by simp only[ii]<;>omega)
def mD:cT X (.type "tuple") (λxs H Q=>∃ p ys,xs=[.ref p]/\((aR X.K H p ys/\∀ l,H l=none->Q (.ref l) (upd H l (.tup ys)))\/(aX X.K H p ys/\Q (.ref p) H))):=by
 intro Y s U H xs us Q I r h;obtain ⟨p,ys,rfl,h⟩:=h;obtain ⟨u,rfl,rx⟩:=vals1 r;cases rx;rcases h with ⟨hq,q⟩|⟨hq,q⟩
 ·obtain ⟨its,r',pl,hz⟩:=I.list hq;have hlen:=r'.length;refine call_tuple_list pl.isList (λh' kp=>?_) (by simp only[ii]<;>omega);have I1:Inv X Y U H { s with heap:=h' }:=I.kept (t':=s.toks) kp;have I2:Inv X Y U (upd H h'.objs.size (.tup ys)) { s with heap:=h'.push { cls:=.type "tuple",data:=.seq its.toArray } }:=
   I1.laid (t':=s.toks) (λb o e=>ul _ e) (re _) (show aL X.prog X.w _ _ _ (.tup ys) from ⟨hz,its,r',IsTup.new _ _⟩)
  exact ⟨.ref h'.objs.size,_,I2,rfl,q _ (I1.hok.fresh (re _))⟩
 ·obtain ⟨its,r',pl,hz⟩:=I.tuple hq;exact call_tuple_same pl ⟨.ref p,H,I,rfl,q⟩
abbrev LS (K:W.Frag)(T:String)(x:V)(H:Hp):Prop:=match x with
 | .str _=>T="str"
 | .int _=>T="int"
 | .ref p=>(T="list"/\∃ xs,aR K H p xs)\/(T="tuple"/\∃ o,K.lookup p=some o/\o.cls=.type "tuple"/\o.dict=none)\/
   (T="dict"/\((∃ kvs,H p=some (.dK kvs))\/∃ kvs,H p=some (.dT kvs)))\/(T="set"/\∃ S n,H p=some (.set S n))
 |_=>False
def sU {T:String}{x:V}{v:Value}(I:Inv X Y U H s)(r:RelV x v)(ty:LS X.K T x H):
  s.TypeIs v T/\∀ a,v=.ref a->∃ ob,s.heap.get? a=some ob/\ob.dict=none:=by
 cases x with
 |str z=>
  obtain ⟨t,rfl⟩:=r;cases (show T="str" from ty);exact ⟨typeIs_str s z t,λ_ e=>nomatch e⟩
 |int i=>
  obtain ⟨t,rfl⟩:=r;cases (show T="int" from ty);exact ⟨typeIs_int s i t,λ_ e=>nomatch e⟩
 |ref p=>
  cases r;rcases ty with ⟨rfl,xs,hq⟩|⟨rfl,o,hk,hc,hd⟩|⟨rfl,hk⟩|⟨rfl,S,n,hk⟩
  ·obtain ⟨its,_,pl,_⟩:=I.list hq;refine ⟨pl.isList.typeIs,λa e=>?_⟩;cases e;obtain ⟨o,n,e,c,hd,_⟩:=pl;exact ⟨o,e,hd⟩
  ·refine ⟨⟨o,I.b6 p o hk,hc⟩,λa e=>?_⟩;cases e;exact ⟨o,I.b6 _ o hk,hd⟩
  ·have z:∃ o,s.heap.get? p=some o/\o.ExactDict:=by
    rcases hk with ⟨kvs,hk⟩|⟨kvs,hk⟩
    ·obtain ⟨_,_,_,_,o,_,_,e,ex,_⟩:=I.hok p _ hk;exact ⟨o,e,ex⟩
    ·obtain ⟨_,_,_,_,o,_,_,e,ex,_⟩:=I.hok p _ hk;exact ⟨o,e,ex⟩
   obtain ⟨o,e,ex⟩:=z;refine ⟨⟨o,e,ex.1⟩,λa e2=>?_⟩;cases e2;exact ⟨o,e,ex.2.1⟩
  ·obtain ⟨o,_,_,_,e,ex,_⟩:=I.hok p _ hk;refine ⟨⟨o,e,ex.1⟩,λa e2=>?_⟩;cases e2;exact ⟨o,e,ex.2.1⟩
 |_=>exact False.elim ty
abbrev Ln (K:W.Frag)(T:String)(r:V->List V->Hp->VK->Prop)(to:TE):TE:=λU H Q=>to U H λx H1=>LS K T x H1/\r x [] H1 Q
abbrev MO (K:W.Frag)(T:String)(r:V->List V->Hp->VK->Prop)(to:TE)(t:TA):TE:=λU H Q=>to U H λx H1=>LS K T x H1/\t U H1 λxs H2=>r x xs H2 Q
variable {o e:Expr}{es:List Expr}{to:TE}{t:TA}{name:Str}{apos cpos:Pos}{T id:String}{r:V->List V->Hp->VK->Prop}
def GW (pa:PlainAttrs T)(slot:Slot T name id)(hty:typeOf (.builtin id)=pure (.type "method_descriptor")) (hm:KG X id r) (ho:PE X o to)
  (hbase:attributeBase o name X.env (eval o X.env)=eval o X.env:=by rfl) (hline:(apos.endLine ==cpos.line)=true:=by rfl):PE X (.Call (.Attribute o name apos) [] [] cpos) (Ln X.K T r to):=by
 intro Y s U H Q I h;refine wpAny_Call_method0_late hbase hline (aC (ho Y s U H _ I h) λv s1 ⟨x,H1,I1,r1,ty,q1⟩=>?_);obtain ⟨h1,h2⟩:=sU I1 r1 ty;exact ⟨T,id,pa,slot,hty,h1,h2,Calls.callWith_builtin rfl (PySem.evalArgs_none (hm Y s1 U H1 x [] v [] Q I1 r1 .nil q1))⟩
def IJ (pa:PlainAttrs T)(slot:Slot T name id)(hty:typeOf (.builtin id)=pure (.type "method_descriptor")) (hm:KG X id r) (ho:PE X o to) (ha:PA X (e::es) t)
  (hbase:attributeBase o name X.env (eval o X.env)=eval o X.env:=by rfl)
  (hfew:((backTo cpos (bm (e::es) X.env)).all (λx=>!x.1)&&(backToKw cpos (keywordEach [] X.env)).all (λx=>x.1.isSome)
   &&decide ((e::es).length+([]:List Keyword).length+(if ([]:List Keyword).isEmpty then 0 else 1)<30))=true:=by rfl)
  (hline:(apos.endLine ==cpos.line)=true:=by rfl) (hs:bm (e::es) X.env=(false,eval e X.env)::bm es X.env:=by rfl) (hplain:(backTo cpos (bm es X.env)).any (·.1)=false:=by rfl):
  PE X (.Call (.Attribute o name apos) (e::es) [] cpos) (MO X.K T r to t):=by
 intro Y s U H Q I h;refine wpAny_Call_method_late hbase hfew hline rfl (aC (ho Y s U H _ I h) λv s1 ⟨x,H1,I1,r1,ty,q1⟩=>?_);obtain ⟨h1,h2⟩:=sU I1 r1 ty;refine ⟨T,id,pa,slot,hty,h1,h2,?_⟩;have hA:=ha cpos Y s1 U H1 _ I1 q1;rw[hs] at hA⊢;refine Calls.callWith_builtin (by show (false||(backTo cpos (bm es X.env)).any (·.1))=false;rw[hplain]<;>rfl) (Calls.evalArgs_plain ?_);exact aC hA λus s2 ⟨vs,H2,I2,r2,q2⟩=>hm Y s2 U H2 x vs v us Q I2 r1 r2 q2
/- xs.append(e),list.index on a module's tuple .. are KG facts of 06m -/
end
abbrev LV (X:Cx)(id:String)(r:V->List V->Hp->VK->Prop):Prop:=
 ∀ (Y:ND) (s:Shared) (U:St) (H:Hp) (x:V) (xs:List V) (v:Value) (us:List Value) (Q:VK),Inv X Y U H s->RelV x v->Vals xs us->r x xs H Q->
  wpAny (model X.prog X.w) X.A (call (.builtin id) (v::us)) (EP X Y U Q) X.xe s
def Vals.one:∀ {x:V}{us:List Value},Vals [x] us->∃ u,us=[u]/\RelV x u
 |_,_,.cons r .nil=>⟨_,rfl,r⟩
def Vals.zero:∀ {us:List Value},Vals [] us->us=[]
 |_,.nil=>rfl
def Vals.eraseIdx:∀ {xs:List V}{us:List Value}(i:Nat),Vals xs us->Vals (xs.eraseIdx i) (us.eraseIdx i)
 |_,_,_,.nil=>.nil
 |_,_,0,.cons _ t=>t
 |_,_,i+1,.cons r t=>.cons r (Vals.eraseIdx i t)
variable {us:List Value}
def Vals.reverse {xs:List V}(h:Vals xs us):Vals xs.reverse us.reverse:=by
 induction h with
 |nil=>exact .nil
 |cons r t ih=>rw[List.reverse_cons,List.reverse_cons];exact Vals.append ih (.cons r .nil)
def Vals.rep {xs:List V}(h:Vals xs us):∀ k:Nat,Vals (sK k xs).flatten (sK k us).flatten
 |0=>.nil
 |k+1=>by
  rw[replicate_succ,replicate_succ,flatten_cons,flatten_cons];exact Vals.append h (Vals.rep h k)
def foldl_rep (its:List Value):∀ (k:Nat) (acc:List Value),
  List.foldl (λx1 x2=>x1++x2) acc.toArray (sK k its.toArray)=(acc++(sK k its).flatten).toArray
 |0,acc=>by simp
 |k+1,acc=>by
  have e:acc.toArray++its.toArray=(acc++its).toArray:=by simp
  have e2:(acc++its)++(sK k its).flatten=acc++(sK (k+1) its).flatten:=by
   rw[replicate_succ,flatten_cons,le]
  rw[<-e2,<-foldl_rep its k (acc++its),<-e,replicate_succ,foldl_cons]
section
variable {X:Cx}{Y:ND}{U:St}{H:Hp}{s:Shared}{l b:Addr}{xs ys zs:List V}
def Inv.FC {its its':List Value}{f:Array Value->Array Value}{t':Nat}(I:Inv X Y U H s)(hH:H l=some (.lst xs))
  (e:s.heap.get? l=some { cls:=.type "list",data:=.seq its.toArray n }) (hf:f its.toArray=its'.toArray) (hv:Vals ys its') (hz:ys.length<=bn):
  Inv X Y U (upd H l (.lst ys)) { s with heap:=s.heap.update l (Obj.mapSeq f),toks:=t' }:=by
 have q:=PySem.IsL.update e f;rw[hf] at q;refine I.write (x:=l) (e:=l) (by rw[hH];exact trivial) (.inl rfl) (λb' u hb hu=>(Heap.get?_update_other s.heap (Obj.mapSeq f) (Ne.symm hb)).trans hu) ⟨_,q⟩ ?_;exact ⟨hz,its',_,hv,q⟩
def Inv.Ic {its:List Value}{t':Nat}(I:Inv X Y U H s)(hv:Vals ys its)(hz:ys.length<=bn):
  Inv X Y U (upd H s.heap.objs.size (.lst ys)) { s with heap:=s.heap.push { cls:=.type "list",data:=.seq its.toArray },toks:=t' }:=
 I.laid (λ_ _ q=>ul _ q) (re _) ⟨hz,its,0,hv,v4 _ rfl⟩
def Inv.fresh (I:Inv X Y U H s):H s.heap.objs.size=none:=I.hok.fresh (re _)
def Inv.qw (I:Inv X Y U H s)(hH:H l=some (.lst xs)):xs.length<=bn/\∃ (its:List Value) (n:Nat),Vals xs its/\xs.length=its.length/\s.heap.get? l=some { cls:=.type "list",data:=.seq its.toArray n }:=by
 obtain ⟨z,its,n,r,e⟩:=I.hok l _ hH;exact ⟨z,its,n,r,r.length,e⟩
def rq (h:n<=bn):Builtin.List.listTooLong n=false:=by
 unfold Builtin.List.listTooLong;exact decide_eq_false nofun
end
section
variable {X:Cx}
abbrev CZ:V->List V->Hp->VK->Prop:=λx vs H Q=>∃ l xs y,x=.ref l/\vs=[y]/\H l=some (.lst xs)/\xs.length<bn/\Q .non (upd H l (.lst (xs++[y])))
def iZ:LV X "list.append" CZ:=by
 intro Y s U H x vs v us Q I rx rv h;obtain ⟨l,xs,y,rfl,rfl,hH,hz,q⟩:=h;cases rx;obtain ⟨u,rfl,ru⟩:=rv.one;obtain ⟨z,its,n,r,hl,e⟩:=I.qw hH;refine call_meets F.slot_list_append ⟨_,e,rfl⟩ F.entry_list_append (F.args_list_append_2 _ _) (PySem.list_append l its.toArray n u (by rw[ii];omega)) ⟨e,?_⟩;refine ⟨.non,_,I.FC (its':=its++[u]) hH e (by simp) (r.append (.cons ru .nil)) ?_,rfl,q⟩;rw[ci,ge]
 omega
abbrev Co:V->List V->Hp->VK->Prop:=λx vs H Q=>∃ l b xs zs,x=.ref l/\vs=[.ref b]/\H l=some (.lst xs)/\H b=some (.lst zs)/\xs.length+zs.length<=bn/\Q .non (upd H l (.lst (xs++zs)))
def wU:LV X "list.extend" Co:=by
 intro Y s U H x vs v us Q I rx rv h;obtain ⟨l,b,xs,zs,rfl,rfl,hH,hB,hz,q⟩:=h;cases rx;obtain ⟨u,rfl,ru⟩:=rv.one;cases ru;obtain ⟨z,its,n,r,hl,e⟩:=I.qw hH;obtain ⟨z2,j9,n2,r2,hl2,e2⟩:=I.qw hB;have hsz:its.toArray.size+j9.toArray.size<=bn:=by rw[ii,ii];omega
 have hlong:¬ (!its.toArray.isEmpty&&Builtin.List.listTooLong (its.toArray.size+j9.toArray.size))=true:=by
  rw[rq hsz,Bool.and_false];exact Bool.false_ne_true
 refine call_meets F.slot_list_extend ⟨_,e,rfl⟩ F.entry_list_extend (F.args_list_extend_2 _ _)
  (AutoSeq1.list_extend_list_list_0 l its.toArray n b j9.toArray n2 hlong (by rw[ii];omega) nofun) ⟨e,e2,?_⟩
 refine ⟨.non,_,I.FC (its':=its++j9) hH e (by simp) (r.append r2) ?_,rfl,q⟩;rw[ci]
 omega
abbrev Lg:R2:=λx y H Q=>∃ l b xs zs,x=.ref l/\y=.ref b/\H l=some (.lst xs)/\H b=some (.lst zs)/\xs.length+zs.length<=bn/\∀ p,H p=none->Q (.ref p) (upd H p (.lst (xs++zs)))
def Fz:cV X (binaryOp .Add) Lg:=by
 intro Y s U H x y v u Q I rx ry h;obtain ⟨l,b,xs,zs,rfl,rfl,hH,hB,hz,q⟩:=h;cases rx;cases ry;obtain ⟨z,its,n,r,hl,e⟩:=I.qw hH;obtain ⟨z2,j9,n2,r2,hl2,e2⟩:=I.qw hB;refine PySem.P.add_list e e2 ?_ (by rw[ii,ii];omega);have ea:its.toArray++j9.toArray=(its++j9).toArray:=by simp
 rw[ea];exact ⟨.ref _,_,I.Ic (t':=s.toks) (r.append r2) (by rw[ci];omega),rfl,q _ I.fresh⟩
abbrev LA:R2:=λx y H Q=>∃ l k xs,x=.ref l/\y=.int k/\H l=some (.lst xs)/\ -(2 ^ 63)<=k/\k<2 ^ 63/\xs.length*k.toNat<=bn/\
 ∀ p,H p=none->Q (.ref p) (upd H p (.lst (sK k.toNat xs).flatten))
def len_rep (xs:List α)(k:Nat):(sK k xs).flatten.length=k*xs.length:=by
 induction k with
 |zero=>simp
 |succ k ih=>rw[replicate_succ,flatten_cons,ci,ih,Nat.succ_mul,Nat.add_comm]
def HH:cV X (binaryOp .Mult) LA:=by
 intro Y s U H x y v u Q I rx ry h;obtain ⟨l,k,xs,rfl,rfl,hH,h1,h2,hz,q⟩:=h;cases rx;obtain ⟨t,rfl⟩:=ry;obtain ⟨z,its,n,r,hl,e⟩:=I.qw hH;have hlen:its.toArray.size*k.toNat<=bn:=by rw[ii,<-hl];exact hz
 have hcap:¬ its.toArray.size*k.toNat>(2 ^ 63-1) / 8:=by
  have:(bn:Nat)<=(2 ^ 63-1) / 8:=by decide
  omega
 have hfit:¬ (!Builtin.List.listFitsIndex k)=true:=by
  rw[fitsIndex_both h1 h2];exact Bool.false_ne_true
 have hlong:¬ Builtin.List.listTooLong (its.toArray.size*k.toNat)=true:=by
  rw[rq hlen];exact Bool.false_ne_true
 have hnew:List.foldl (λx1 x2=>x1++x2) #[] (sK (if its.toArray.isEmpty=true then 0 else k.toNat) its.toArray)=(sK k.toNat its).flatten.toArray:=by
  have f0:∀ m:Nat,List.foldl (λx1 x2=>x1++x2) #[] (sK m its.toArray)=(sK m its).flatten.toArray:=λm=>by
   have:=foldl_rep its m [];rw[nil_append] at this;exact this
  rw[f0];cases its with
  |nil=>simp
  |cons a r'=>rw[if_neg (by simp)]
 refine wpAny_binaryOp_repeat_ref (T:="list") (U:="int") (by decide) ⟨_,e,rfl⟩ (λs'=>typeIs_int s' k t) noFill_list_mul F.fills_int_mul F.slot_int_rmul repeat_list F.slot_int_index.lookup
  (call_meets F.slot_int_rmul (typeIs_int s k t) F.entry_int_rmul (F.args_int_rmul_2 _ _) (int___rmul___int_list k t l its.toArray n)
   ⟨e,rfl,⟨_,e,rfl⟩,call_meets F.slot_list_mul ⟨_,e,rfl⟩ F.entry_list_mul (F.args_list_mul_2 _ _) (AutoListH.list___mul___list_int_3 l its.toArray n k t hfit hcap hlong) ⟨e,?_⟩⟩)
 rw[hnew];exact ⟨.ref _,_,I.Ic (t':=s.toks) (r.rep k.toNat) (by rw[len_rep,Nat.mul_comm];exact hz),rfl,q _ I.fresh⟩
end
section
variable {prog:Program}{w:World}{A:Around}{E:NC}{s:Shared}
set_option maxRecDepth 100000 in
end
section
variable {X:Cx}
end
variable {o:Option V}
section
variable {κ:Type} [DecidableEq κ]
abbrev je (kvs:List (κ×V))(k:κ):Option V:=(kvs.find? λkv=>decide (kv.1=k)).map (·.2)
abbrev putK (kvs:List (κ×V))(k:κ)(v:V):List (κ×V):=
 if (kvs.any λkv=>decide (kv.1=k))=true then kvs.map (λkv=>if kv.1=k then (kv.1,v) else kv) else kvs++[(k,v)]
def lK {p:κ×V}{r:List (κ×V)}{k:κ}(e:p.1=k):je (p::r) k=some p.2:=by simp[je,find?_cons,e]
def lD {p:κ×V}{r:List (κ×V)}{k:κ}(e:¬ p.1=k):je (p::r) k=je r k:=by simp[je,find?_cons,e]
def rz (k:κ):∀ kvs:List (κ×V),(kvs.any λkv=>decide (kv.1=k))=(je kvs k).isSome
 | []=>rfl
 |p::r=>by
  rw[any_cons]
  by_cases e:p.1=k
  ·simp only[lK e,decide_eq_true e,Bool.true_or,Option.isSome_some]
  ·rw[lD e,decide_eq_false e,Bool.false_or];exact rz k r
def eA (kvs:List (κ×V))(k:κ)(v:V):(putK kvs k v).length<=kvs.length+1:=by
 unfold putK
 split
 ·rw[ce];omega
 ·rw[ci,length_cons,length_nil];omega
def dz.xN {u:Option Value}(r:dz o u):o.isSome=u.isSome:=by
 cases o with
 |none=>cases u with
  |none=>rfl
  |some _=>exact (show False from r).elim
 |some _=>cases u with
  |none=>exact (show False from r).elim
  |some _=>rfl
def KV.val {kvs:List (κ×V)}{vs:List (κ×Value)}(r:KV kvs vs)(k:κ):dz (je kvs k) (valueAt vs k):=by
 unfold KV at r
 induction r with
 |nil=>exact True.intro
 | @cons p q ps qs h t ih=>
  obtain ⟨h1,h2⟩:=h
  by_cases e:p.1=k
  ·have e':q.1=k:=h1.symm.trans e;have b:valueAt (q::qs) k=some q.2:=by simp[valueAt,find?_cons,e']
   rw[lK e,b];exact h2
  ·have e':¬ q.1=k:=λz=>e (h1.trans z)
   have b:valueAt (q::qs) k=valueAt qs k:=by simp[valueAt,find?_cons,e']
   rw[lD e,b];exact ih
def KV.any {kvs:List (κ×V)}{vs:List (κ×Value)}(r:KV kvs vs)(k:κ):(kvs.any λkv=>decide (kv.1=k))=vs.any λkv=>decide (kv.1=k):=by
 unfold KV at r
 induction r with
 |nil=>rfl
 |cons h t ih=>rw[any_cons,any_cons,ih,h.1]
def KV.E7 {kvs:List (κ×V)}{vs:List (κ×Value)}(r:KV kvs vs)(k:κ)(ry:RelV y u):
  KV (kvs.map λkv=>if kv.1=k then (kv.1,y) else kv) (vs.map λkv=>if kv.1=k then (kv.1,u) else kv):=by
 unfold KV at r⊢
 induction r with
 |nil=>exact .nil
 | @cons p q ps qs h t ih=>
  rw[map_cons,map_cons];refine .cons ?_ ih;obtain ⟨h1,h2⟩:=h
  by_cases e:p.1=k
  ·rw[if_pos e,if_pos (h1.symm.trans e)];exact ⟨h1,ry⟩
  ·rw[if_neg e,if_neg (λz=>e (h1.trans z))];exact ⟨h1,h2⟩
def KV.put {kvs:List (κ×V)}{vs:List (κ×Value)}(r:KV kvs vs)(k:κ)(ry:RelV y u):KV (putK kvs k y) (stored vs k u):=by
 unfold putK stored;rw[r.any k]
 by_cases e:(vs.any λkv=>decide (kv.1=k))=true
 ·rw[if_pos e,if_pos e];exact r.E7 k ry
 ·rw[if_neg e,if_neg e];exact Paired.snoc r ⟨rfl,ry⟩
def KV.length {kvs:List (κ×V)}{vs:List (κ×Value)}(r:KV kvs vs):kvs.length=vs.length:=Paired.length r
end
variable {P:Program}{w:World}
def rL {k:Key}(r:RelV (kV k) u):(ay P w).is k u=true:=by
 cases k with
 |inl i=>obtain ⟨t,e⟩:=(show ∃ t,u=Value.int i t from r);subst e;exact sv P w i t
 |inr x=>obtain ⟨t,e⟩:=(show ∃ t,u=Value.str x t from r);subst e;exact sr P w x t
def nM {P:Program}{w:World}:∀ {ks:List Key}{us:List Value},Vals (ks.map kV) us->ItemsAre (ay P w) ks us
 | [],_,r=>by rw[List.map_nil] at r;cases r;exact .nil
 |k::ks,_,r=>by
  rw[map_cons] at r;cases r with
  |cons h t=>exact .cons (rL h) (nM t)
@[reducible]def KT (H:Hp):List (List Key×V)->List (List Key×Addr×Value)->Prop:=Paired λp q=>p.1=q.1/\H q.2.1=some (.tup (p.1.map kV))/\RelV p.2 q.2.2
variable {xs:List (List Key×Addr×Value)}{kvs:List (List Key×V)}
def KT.val (r:KT H kvs xs)(k:List Key):dz (je kvs k) ((atKey xs k).map (·.2)):=by
 induction r with
 |nil=>exact True.intro
 | @cons p q ps qs h t ih=>
  obtain ⟨h1,_,h2⟩:=h
  by_cases e:p.1=k
  ·have e':q.1=k:=h1.symm.trans e;have b:atKey (q::qs) k=some q.2:=by simp[atKey,find?_cons,e']
   rw[lK e,b];exact h2
  ·have e':¬ q.1=k:=λz=>e (h1.trans z)
   have b:atKey (q::qs) k=atKey qs k:=by simp[atKey,find?_cons,e']
   rw[lD e,b];exact ih
def KT.E7 (r:KT H kvs xs)(k:List Key)(ry:RelV y u):
  KT H (kvs.map λkv=>if kv.1=k then (kv.1,y) else kv) (xs.map (putAt k u)):=by
 induction r with
 |nil=>exact .nil
 | @cons p q ps qs h t ih=>
  rw[map_cons,map_cons];refine .cons ?_ ih;obtain ⟨h1,h2,h3⟩:=h;unfold putAt
  by_cases e:p.1=k
  ·rw[if_pos e,if_pos (h1.symm.trans e)];exact ⟨h1,h2,ry⟩
  ·rw[if_neg e,if_neg (λz=>e (h1.trans z))];exact ⟨h1,h2,h3⟩
def KT.put (r:KT H kvs xs)(k:List Key){b:Addr}(hb:H b=some (.tup (k.map kV)))(ry:RelV y u):
  KT H (putK kvs k y) (storedH xs k b u):=by
 have e:(kvs.any λkv=>decide (kv.1=k))=(atKey xs k).isSome:=by
  rw[rz,(r.val k).xN,Option.isSome_map]
 unfold putK storedH;rw[e]
 by_cases q:(atKey xs k).isSome=true
 ·rw[if_pos q,if_pos q];exact r.E7 k ry
 ·rw[if_neg q,if_neg q];exact Paired.snoc r ⟨rfl,hb,ry⟩
variable {H':Hp}
def KT.keeps (r:KT H kvs xs)(ht:∀ b ys,H b=some (.tup ys)->H' b=some (.tup ys)):KT H' kvs xs:=
 Paired.Hd r λ_ _ z=>⟨z.1,ht _ _ z.2.1,z.2.2⟩
section
variable {P:Program}{w:World}{H:Hp}{h:Heap}{a:Addr}
def Eu {u:HO}(ok:gq P w H h)(e:Rd H a u):aL P w H h a u:=e.ok ok
def lN {kvs:List (Key×V)}(ok:gq P w H h)(e:Rd H a (.dK kvs)):kvs.length<=bn/\(a ==sysModules)=false/\∃ vs,KV kvs vs/\h.DictOf (ay P w) a vs:=
 show aL P w H h a (.dK kvs) from Eu ok e
def Et {kvs:List (Key×V)}(ok:gq P w H h)(e:H a=some (.dK kvs)):kvs.length<=bn/\(a ==sysModules)=false/\∃ vs,KV kvs vs/\h.DictOf (ay P w) a vs:=lN ok (.inl e)
def uh {ks:List Key}(ok:gq P w H h)(e:H a=some (.tup (ks.map kV))):(tupleKind (ay P w)).is h ks a:=by
 obtain ⟨_,its,r,o,h1,h2,n,h3⟩:=(show aL P w H h a (.tup (ks.map kV)) from ok a _ e);exact ⟨o,its.toArray,n,h1,h2,h3,by simpa using nM r⟩
def Ai (ok:gq P w H h)(e:Rd H a (.dT kvs)):kvs.length<=bn/\(a ==sysModules)=false/\
  ∃ xs,KT H kvs xs/\h.DictOfH (tupleKind (ay P w)) a xs:=by
 obtain ⟨z,y,xs,r,o,es,ep,h1,h2,h3,h4,h5⟩:=(show aL P w H h a (.dT kvs) from Eu ok e);refine ⟨z,y,xs,r,o,es,ep,h1,h2,h3,h4,λx hx=>?_,h5⟩;have all:∀ {l:List (List Key×V)}{m:List (List Key×Addr×Value)},KT H l m->∀ x ∈ m,(tupleKind (ay P w)).is h x.1 x.2.1:=by
  intro l m q
  induction q with
  |nil=>intro x hx;exact nomatch hx
  | @cons p q ps qs hq t ih=>
   intro x hx;rcases nb.mp hx with e|hx
   ·subst e;exact uh ok (by rw[<-hq.1];exact hq.2.1)
   ·exact ih x hx
 exact all r x hx
def IC (ok:gq P w H h)(e:H a=some (.dT kvs)):kvs.length<=bn/\(a ==sysModules)=false/\
  ∃ xs,KT H kvs xs/\h.DictOfH (tupleKind (ay P w)) a xs:=Ai ok (.inl e)
end
abbrev HG (H:Hp)(a:Addr)(y:V)(r:Option V):Prop:=
 (∃ kvs k,Rd H a (.dK kvs)/\y=kV k/\r=je kvs k)\/∃ kvs k b,Rd H a (.dT kvs)/\y=.ref b/\H b=some (.tup (k.map kV))/\r=je kvs k
abbrev IX (H:Hp)(a:Addr)(y v:V)(H':Hp):Prop:=
 (∃ kvs k,H a=some (.dK kvs)/\y=kV k/\kvs.length<bn/\H'=upd H a (.dK (putK kvs k v)))\/
 ∃ kvs k b,H a=some (.dT kvs)/\y=.ref b/\H b=some (.tup (k.map kV))/\kvs.length<bn/\H'=upd H a (.dT (putK kvs k v))
section
variable {X:Cx}{Y:ND}{U:St}{H:Hp}{s:Shared}{a:Addr}{y v:V}{u r:Value}{o:Option V}{A:Around}{E:NC}
def Inv.big (I:Inv X Y U H s):sysModules<s.heap.objs.size:=by
 have h:mainGlobals<s.heap.objs.size:=(I.mod.glob.keeps I.bk).lt;exact Nat.lt_trans (by decide) h
def xf {Q:NC}(hu:A.units+1<cLine)(I:Inv X Y U H s)(g:HG H a y (some v))(ry:RelV y u)(h:∀ w' s',Inv X Y U H s'->RelV v w'->Q w' s'):
  wpAny (model X.prog X.w) A (getItem (.ref a) u) Q E s:=by
 rcases g with ⟨kvs,k,e,ey,l⟩|⟨kvs,k,b,e,ey,eb,l⟩
 ·subst ey;obtain ⟨z,hd,vs,rel,dd⟩:=lN I.hok e;obtain ⟨w',hw,rw'⟩:=dz.some_of (v:=v) (o:=valueAt vs k) (by rw[l];exact rel.val k);exact wpAny_getItem_of (rL ry) dd.mapOf hw (h w' _ (I.tok _) rw')
 ·subst ey;cases (show u=Value.ref b from ry);obtain ⟨z,hd,xs,rel,dd⟩:=Ai I.hok e;obtain ⟨w',hw,rw'⟩:=dz.some_of (v:=v) (o:=(atKey xs k).map (·.2)) (by rw[l];exact rel.val k);obtain ⟨p,hp,hp2⟩:=nw.mp hw;refine wpAny_getItem_heap (tupleKind_room_in1 hu) (uh I.hok eb) dd hp ?_;rw[hp2];exact h w' _ (I.tok _) rw'
def pA {h':Heap}{t':Nat}{ob:HO}(I:Inv X Y U H s)(mu:Jl (H a))(hs:Heap.SameBut a s.heap h')(he:∃ q,h'.get? a=some q) (new:aL X.prog X.w (upd H a ob) h' a ob):
  Inv X Y U (upd H a ob) { s with heap:=h',toks:=t' }:=
 I.write (x:=a) (e:=a) mu (.inl rfl) (λb q hb z=>(hs.2 b hb).trans z) he new
def tX {h':Heap}{kvs:List (Key×V)}{vs:List (Key×Value)}(z:kvs.length<=bn)(hd:(a ==sysModules)=false)(rel:KV kvs vs)(dd:h'.DictOf (ay P w) a vs):
  aL P w H' h' a (.dK kvs):=⟨z,hd,vs,rel,dd⟩
def w9 {Q:NB}(hu:A.units+1<cLine)(I:Inv X Y U H s)(g:IX H a y v H')(ry:RelV y u)(rv:RelV v r)(h:∀ s',Inv X Y U H' s'->Q () s'):
  wpAny (model X.prog X.w) A (setItem (.ref a) u r) Q E s:=by
 rcases g with ⟨kvs,k,e,ey,l,eH⟩|⟨kvs,k,b,e,ey,eb,l,eH⟩
 ·subst ey eH;obtain ⟨z,hd,vs,rel,dd⟩:=Et I.hok e;have hz:vs.length<=bn:=by rw[<-rel.length];exact z
  have hl:(putK kvs k v).length<=bn:=by have:=eA kvs k v;omega
  refine wpAny_setItem_pairs (hsz:=hz) (rL ry) dd λh' dd' hs=>h _ ?_
  have he:∃ q,h'.get? a=some q:=let ⟨q,_,_,hq,_⟩:=dd';⟨q,hq⟩;exact pA I (by rw[e];exact True.intro) hs he (tX hl hd (rel.put k rv) dd')
 ·subst ey eH;cases (show u=Value.ref b from ry);obtain ⟨z,hd,xs,rel,dd⟩:=IC I.hok e;have hz:xs.length<=bn:=by rw[<-Paired.length rel];exact z
  have hl:(putK kvs k v).length<=bn:=by have:=eA kvs k v;omega
  refine wpAny_setItem_heap (hsz:=hz) (tupleKind_room_in1 hu) (uh I.hok eb) dd λh' dd' hs=>h _ ?_
  obtain ⟨q,es,ep,hq,h2,h3,h4,_,h5⟩:=dd';refine pA I (by rw[e];exact True.intro) hs ⟨q,hq⟩ ⟨hl,hd,_,(rel.put k eb rv).keeps λc ys ec=>?_,q,es,ep,hq,h2,h3,h4,h5⟩;rw[ah (JF ec e (λz=>nomatch z))];exact ec
end
section
variable {X:Cx}{Y:ND}{U:St}{H:Hp}{s:Shared}{a:Addr}{kvs:List (Key×V)}{k:Key}{u:Value}{A:Around}{E:NC}
end
def rX {X:Cx}{a:Addr}(I:Inv X Y U H s)(g:HG H a y o):s.TypeIs (.ref a) "dict":=by
 rcases g with ⟨kvs,k,e,_,_⟩|⟨kvs,k,b,e,_,_,_⟩
 ·obtain ⟨_,_,vs,_,dd⟩:=lN I.hok e;exact dd.typeIs
 ·obtain ⟨_,_,xs,_,dd⟩:=Ai I.hok e;exact dd.typeIs
section
variable {X:Cx}{o i e value:Expr}{pos pos' tpos:Pos}{td ty tv:TE}
end
def yB (h:Heap)(hb:sysModules<h.objs.size):aL P w H (h.push { cls:=.type "dict",data:=.dict #[] }) h.objs.size (.dK []):=
 ⟨Nat.zero_le _,beq_eq_false_iff_ne.mpr (Ne.symm (pi hb)),[],.nil,Heap.DictOf.new h⟩
section
variable {X:Cx}{pos:Pos}
end
section
variable {X:Cx}{Y:ND}{U:St}{H:Hp}{s:Shared}{a:Addr}{y d:V}{u r:Value}{o:Option V}{A:Around}{E:NC}
end
section
variable {X:Cx}{o e f:Expr}{apos cpos:Pos}{td ty tx:TE}
end
section
variable {X:Cx}{Y:ND}{U:St}{H:Hp}{s:Shared}{a:Addr}{kvs:List (Key×V)}{A:Around}{E:NC}
end
section
variable {X:Cx}{Y:ND}{U:St}{H:Hp}{s:Shared}{a:Addr}{y:V}{u:Value}{A:Around}{E:NC}
end
end L2
namespace Att
open PySem PySem.W PySem.Calls PyProof.Rows
variable {P:Params}
def j7 {h:Heap}:∀ (ns:List Int) (vs:List Value),WellAll P h vs (ns.map WData.int)->IntsAre vs ns:=by
 intro ns
 induction ns with
 |nil=>
  intro vs w;rw[List.map_nil] at w;cases w;exact .nil
 |cons n ns ih=>
  intro vs w;rw[map_cons] at w;cases w with
  |cons a b=>
   cases a;exact .cons _ _ (ih _ b)
variable {l:OpenLaw}
def xH {n:Nat}(hn:l.most=some n){h:Heap}{args:List WData}{vals:List Value}
  (hpre:l.row.toRowW.claim.pre args=true) (hwl:WellAll P h vals args):
  ∃ a vs ns,vals=[Value.ref a]/\args=[WData.list (ns.map WData.int)]/\h.get? a=some { cls:=.type "list",data:=.seq vs.toArray }/\IntsAre vs ns/\ns.length<=n:=by
 have hsh:WShape.hasAll [] args [.list .int]=true:=(pre_splitW hpre).1;have hc:l.pre.holds [] { args:=args }=true:=(pre_splitW hpre).2;obtain ⟨d,r,rfl,h1,h2⟩:=hasAllW_cons hsh;obtain rfl:=hasAllW_nil h2;obtain ⟨xs,rfl,h3⟩:=hasW_list h1;obtain ⟨ns,rfl⟩:=items_int h3;have hlen:ns.length<=n:=by
  unfold OpenLaw.pre at hc;have h4:(WTm.not (.lt (.lit (.int (n:Int))) (.len (.arg 0)))).holds [] { args:=[.list (ns.map .int)] }=true:=by
   have h4:=(holds_andW hc).1;rw[hn] at h4;exact h4
  have h5:=condW_of h4 (w_not (w_lt w_lit (w_len_list (w_arg rfl))));rw[ce] at h5;refine Nat.le_of_not_lt λq=>?_
  have q':(n:Int)<((ns.length:Nat):Int):=by omega
  first
   |(rw[decide_eq_true q'] at h5;exact absurd h5 (by decide))
   |(simp at h5;omega)
 cases hwl with
 |cons w1 w2=>
  cases w2;cases w1 with
  |list ho hall=>exact ⟨_,_,ns,rfl,rfl,ho,j7 ns _ hall,hlen⟩
def xI (l:OpenLaw)(args:List WData):l.row.toRowW.claim.post args (.bool true) args=true:=
 postW_of (r:=l.row.toRowW) (X:=(true ==true))
  (show WShape.has [] (.bool true) .bool=true by first|rfl|decide|simp[WShape.has,WShape.arms,WShape.armsAll])
  (show (WTm.eq .res (.lit (.bool true))).value [] { args:=args,res:=some (.bool true),after:=args }=some (.bool (true ==true)) from w_eq_bool (w_res rfl) w_lit) rfl
def qp {n:Nat}{q:Program}{loose:List Str}{XP:(Str->Option Value)->Heap->Prop}{YP:World->Heap->Prop}{d:DefRec}
  (hn:l.most=some n) (hdf:d.params.defaults=[])
  (call:∀ (w:World) (s₀ s₁:Shared) (mg mb:NF) (fa:Addr) (o:Obj) (pm cd doc:Value) (a:Addr) (vs:List Value) (ns:List Int),
   Ground q loose [] XP w s₀ mg mb s₁.heap->YP w s₁.heap->
   s₁.heap.get? fa=some o->o.data=.func (docDef d.name d.params d.body d.scope pm cd doc)->s₁.heap.CodeRec cd d.name->mg d.name=some (.ref fa)->
   s₁.heap.get? a=some { cls:=.type "list",data:=.seq vs.toArray }->IntsAre vs ns->ns.length<=n->s₁.gens=#[]->
   codeAny (model l.prog w) callerA (.call (.ref fa) ⟨[.ref a],[]⟩) (λr s'=>r=.ok (.ret (.bool true))/\OldK s₁.heap s'.heap/\s'.os=s₁.os/\AllBare s'.gens) s₁):
  WalkO q loose XP YP l.row.toRowW d [] (λf vs=>PySem.call f vs):=by
 intro w s₀ s₁ mg mb G Y fa o pm cd doc dV kV ho hd hcd hD hmg hg args vals as hpre hlay hrd hwl hlo;obtain rfl:dV=.none:=Dflts.none hD hdf;obtain rfl:kV=.none:=Dflts.noKw hD;obtain ⟨a,vs,ns,rfl,rfl,hobj,hints,hlen⟩:=xH hn hpre hwl;refine enter_call (codeAny_mono (call w s₀ s₁ mg mb fa o pm cd doc a vs ns G Y ho (fd_plain hd) hcd hmg hobj hints hlen hg) λr s' hq=>?_);obtain ⟨rfl,h2,h3,h4⟩:=hq;exact ⟨.inl ⟨.bool true,.bool true,[],rfl,λ_=>rfl,.bool true,xI l _,λ_=>⟨List.Pairwise.nil,λ_ hm=>(nomatch hm)⟩⟩,h2,h3,h4⟩
section
variable {prog:Program}{w:World}{A:Around}{E:NC}{s:Shared}{K:Frag}
end
end Att
namespace L2
open PySem PySem.Spec PyProof.Rows
def nB:∀ {vs:List Value}{ns:List Int},IntsAre vs ns->Vals (ns.map V.int) vs
 |_,_,.nil=>.nil
 |_,_,.cons n t h=>.cons ⟨t,rfl⟩ (nB h)
abbrev Hz (H:Hp):Prop:=∀ b,H b=none\/∃ o xs,H b=some (.frz o (.lst xs))
def zq {P:Program}{w:World}{K:W.Frag}{mg mb:NF}{CX:uI}{k:Nat}{fa a:Addr}{fd:FuncData}{x:Str}{sp:Sp}{s₁:Shared}{vs:List Value}{ns:List Int}
  (KX:K.In s₁.heap) (hns:s₁.heap.Ns mainGlobals mg) (hb:s₁.heap.Ns builtinsNs mb) (hbb:∀ x:Str,x≠"__name__"->mb x=bootBuiltins x) (hlim:s₁.heap.NoLimit) (hg:s₁.gens=#[])
  (ha:s₁.heap.get? a=some { cls:=.type "list",data:=.seq vs.toArray }) (hi:IntsAre vs ns) (hl:ns.length<=bn) (hr:bU k callerA)
  (F:∀ base:Heap,K.In base->base.Ns mainGlobals mg->dm P w K mg base CX k fa fd [x] sp) (hbind:∀ (s:Shared) (u:Value),BindsTo s fd ⟨[u],[]⟩ [(x,u)])
  (hsp:∀ H:Hp,Hz H->aR K H a (ns.map V.int)->sp [.ref a] H (λv _=>v=.bl true) λ_ _=>False)
  (hCX:∀ H e s',CX [] H s₁ (λ_ _=>False) e s'->False):
  codeAny (model P w) callerA (.call (.ref fa) ⟨[.ref a],[]⟩) (λr s'=>r=.ok (.ret (.bool true))/\OldK s₁.heap s'.heap/\s'.os=s₁.os/\AllBare s'.gens) s₁:=by
 have rv:=nB hi;have lenV:=hi.length;have core:∀ H:Hp,Hz H->aR K H a (ns.map V.int)->gq P w H s₁.heap->(∀ b,H b≠none->b=a)->(H a≠none->K.lookup a=none)->
   codeAny (model P w) callerA (.call (.ref fa) ⟨[.ref a],[]⟩) (λr s'=>r=.ok (.ret (.bool true))/\OldK s₁.heap s'.heap/\s'.os=s₁.os/\AllBare s'.gens) s₁:=by
  intro H hO hS hok hA hK;have base_of:∀ {b:Addr}{o:Obj},s₁.heap.get? b=some o->H b=none->(pM s₁.heap H).get? b=some o:=λe n=>AE e n
  have noA:∀ {b:Addr}{o:Obj}{es:Array DictEntry}{ep:Nat},s₁.heap.get? b=some o->o.data=.dict es ep->H b=none:=λ{b o es ep} e d=>by
   cases q:H b with
   |none=>rfl
   |some u=>
    have e':b=a:=hA b (by rw[q];simp);subst e';rw[ha] at e;cases e;have d':Data.seq vs.toArray _=Data.dict es ep:=d;cases d'
  have nsK:∀ {b:Addr}{m:NF},s₁.heap.Ns b m->(pM s₁.heap H).Ns b m:=λ{b m} ⟨o,es,ep,e,d,r⟩=>⟨o,es,ep,base_of e (noA e d),d,r⟩
  have hKb:K.In (pM s₁.heap H):=λb o e=>base_of (KX b o e) (by
   cases q:H b with
   |none=>rfl
   |some u=>
    have e':b=a:=hA b (by rw[q];simp);subst e';rw[hK (by rw[q];simp)] at e;cases e)
  have hM:Mod K mg (pM s₁.heap H):=⟨hKb,nsK hns,⟨mb,nsK hb,hbb⟩,let ⟨mc,h1,h2⟩:=hlim;⟨mc,nsK h1,h2⟩⟩;have e0:uk P w K mg (pM s₁.heap H) callerA [] s₁ H:=⟨rfl,hM,λb o e=>BU e,Nat.le_of_eq (xF _ _),trivial,λb hb=>absurd (show b ∈ ([]:List Addr) from hb) (by simp),hok,.of_eq hg⟩;refine codeAny_mono ((F _ hKb (nsK hns)).run callerA [] s₁ H ⟨[.ref a],[]⟩ [.ref a] [.ref a] _ _ hr e0 (hbind s₁ (.ref a)) (.cons rfl .nil) (hsp H hO hS)) λr s' h=>?_
  cases r with
  |error e=>exact (hCX H e s' h).elim
  |ok fl=>
   cases fl with
   |next=>exact False.elim h
   |brk=>exact False.elim h
   |cont=>exact False.elim h
   |ret u=>
    obtain ⟨v,H',os,bare,un,hok',r',q⟩:=h;have q':v=.bl true:=q;subst q';obtain rfl:u=Value.bool true:=r';refine ⟨rfl,OldK.of_keep λb o e=>?_,os,bare⟩;cases q:H b with
    |none=>exact un.keep b o e q (by intro z;exact absurd (show b ∈ ([]:List Addr) from z) (by simp)) (by simp)
    |some u=>
     rcases hO b with z|⟨ob,xs,z⟩
     ·rw[q] at z;cases z
     ·have z2:=un.frzs b ob _ z;obtain ⟨e1,_⟩:=hok b _ z;obtain ⟨e2,_⟩:=hok' b _ z2;rw[e] at e1;cases e1;exact e2
 cases hk:K.lookup a with
 |some o=>
  have e:=KX a o hk;rw[ha] at e;cases e;refine core (λ_=>none) (λ_=>.inl rfl) (.inr ⟨_,vs.toArray,_,hk,rfl,rfl,rfl,by rw[ii,lenV];exact hl,by simpa using rv⟩) (λb u z=>by have z':(none:Option HO)=some u:=z;cases z') (λb z=>absurd rfl z) λz=>absurd rfl z
 |none=>
  refine core (λb=>if b=a then some (.frz { cls:=.type "list",data:=.seq vs.toArray } (.lst (ns.map V.int))) else none) (λb=>?_) (.inl (.inr ⟨{ cls:=.type "list",data:=.seq vs.toArray },if_pos rfl⟩)) (λb u z=>?_) (λb z=>?_) λ_=>hk
  ·by_cases hb:b=a
   ·exact .inr ⟨_,_,if_pos hb⟩
   ·exact .inl (if_neg hb)
  ·by_cases hb:b=a
   ·have z':=(if_pos hb).symm.trans z;cases z';subst hb;exact ⟨ha,by rw[ce];exact hl,vs,_,rv,ha⟩
   ·have z':=(if_neg hb).symm.trans z;cases z'
  ·by_cases hb:b=a
   ·exact hb
   ·exact absurd (if_neg hb) z
def DZ {l:W.OpenLaw}{n k:Nat}{q:Program}{loose:List Str}{XP:(Str->Option Value)->Heap->Prop}{YP:World->Heap->Prop}{d:DefRec}{K:Params->W.Frag}{CX:World->uI}{sp:World->Sp}{x:Str}
  (hn:l.most=some n) (hn2:n<=bn) (hdf:d.params.defaults=[]) (hr:bU k callerA)
  (hY:∀ (w:World) (h:Heap),YP w h->(K w.params).In h)
  (F:∀ (w:World) (mg:NF) (fa:Addr) (h:Heap),(K w.params).In h->h.Ns mainGlobals mg->mg d.name=some (.ref fa)->
   ∃ fd:FuncData,(∀ (s:Shared) (u:Value),BindsTo s fd ⟨[u],[]⟩ [(x,u)])/\
    ∀ base:Heap,(K w.params).In base->base.Ns mainGlobals mg->dm l.prog w (K w.params) mg base (CX w) k fa fd [x] (sp w))
  (hsp:∀ (w:World) (H:Hp) (a:Addr) (ns:List Int),ns.length<=n->Hz H->aR (K w.params) H a (ns.map V.int)->sp w [.ref a] H (λv _=>v=.bl true) λ_ _=>False)
  (hCX:∀ (w:World) (H:Hp) (s:Shared) (e:Value) (s':Shared),CX w [] H s (λ_ _=>False) e s'->False):
  W.WalkO q loose XP YP l.row.toRowW d [] (λf vs=>PySem.call f vs):=by
 refine Att.qp hn hdf λw s₀ s₁ mg mb fa o pm cd doc a vs ns G Y ho hd hcd hmg hobj hints hlen hg=>?_
 have KX:=hY w _ Y;obtain ⟨fd,hb,hF⟩:=F w mg fa _ KX G.T.g hmg;exact zq KX G.T.g G.T.b G.T.builtins G.T.nolimit hg hobj hints (Nat.le_trans hlen hn2) hr hF hb (λH hO hS=>hsp w H a ns hlen hO hS) λH e s'=>hCX w H s₁ e s'
section
variable {P:Program}{w:World}{K:W.Frag}{mg:NF}{base:Heap}
end
def dh {n:Nat}(h:n<=1000):n<bn:=Nat.lt_of_le_of_lt h (by decide)
section
variable {X:Cx}
end
end L2
namespace L2
open PySem PySem.Spec PySem.W PyProof.Rows PySem.Builtin PySem.Builtin.ObjectAttr
variable {rs:List Addr}
section
variable {prog:Program}{w:World}{A:Around}{E:NC}{s:Shared}{K:W.Frag}{x C:Addr}{ox od:Obj}{name:Str}{expr:Bool}{v:Value}{Q:NC}
def sh:builtinKind "BaseException.__getattribute__"=some .slot:=by decide+kernel
def nU:splitId "BaseException.__getattribute__"=some ("BaseException","__getattribute__"):=by decide+kernel
def Dd (X:K.In s.heap)(I:W.InstAt s.heap x ox C (some od))(hga:W.findIn K (.ref C) "__getattribute__"=some (some (.builtin "BaseException.__getattribute__"))) (hgn:W.findIn K (.ref C) "__getattr__"=some none)
  (hb:W.mroIn K C (.type "BaseException")=some true) (hf:W.findObj K C (some od) name=some (.value v)) (hh:W.handedIn v=true) (h:Q v { s with toks:=s.toks+1 }):
  wpAny (model prog w) A (getAttr (.ref x) name expr) Q E s:=by
 obtain ⟨hp,g,d,t,os⟩:=s;have L0:=I.type (M:=model prog w);have L1:=looks_findIn (M:=model prog w) X hga;have L2':=looks_findIn (M:=model prog w) X hgn;have L3:=looks_find (M:=model prog w) X I hf;have L4:Looks (model prog w) hp (isInstance (.ref x) (.type "BaseException")) true:=I.type.andThen (looks_mroIn X hb);unfold getAttr getAttrBy;refine ad (wpAny_mkText (bd (ad (L0.at (ad (L1.at ?_))))));have e1:(Value.builtin "BaseException.__getattribute__" ==Value.builtin "object.__getattribute__")=false:=by decide+kernel
 dsimp only;rw[e1,Bool.and_false];show wpAny _ _ (getAttrByItsOwn _ _ _ _ _ _) _ _ _;unfold getAttrByItsOwn hookBefore;refine ad (L2'.at ?_);refine ad (wpAny_attempt (bd ?_));have e2:(expr&&onTheHeap (Value.builtin "BaseException.__getattribute__"))=false:=by cases expr<;>rfl
 unfold callGetattribute;rw[e2];show wpAny _ _ (boundAndCalled _ _ _) _ _ _;unfold boundAndCalled;rw[PySem.F.attr_ValueError.ga.bind];refine ad (am (wpAny_call (codeAny_call_builtin PySem.F.attr_ValueError.ga.plain PySem.F.entry_bexc_ga ?_)));refine @check_slot (model prog w) _ _ _ "BaseException.__getattribute__" "BaseException" "__getattribute__" (.ref x) [.str name t] [] _ sh nU L4 (PySem.F.args_bexc_ga (.ref x) (.str name t)) ?_;unfold Builtin.«object.__getattribute__»;refine ad (am (ad (am (ad (L0.at (ad (L3.at ?_)))))));refine am ?_;show wpAny _ _ (handedOut v) _ _ _;rw[handedOut_of hh];exact am h
abbrev Bo:Value->Bool
 | .ref _=>true
 |_=>false
abbrev b9:List Value:=[.type "ValueError",.type "Exception",.type "BaseException",.type "object"]
abbrev dN (l:List Value):Bool:=l.dropWhile Bo ==b9
def dJ:∀ {l:List Value},dN l=true->∃ rs:List Addr,l=rs.map Value.ref++b9
 | [],e=>by cases e
 |c::r,e=>by
  by_cases h:Bo c=true
  ·have e':dN r=true:=by
    unfold dN at e⊢;rw[List.dropWhile_cons_of_pos h] at e;exact e
   obtain ⟨rs,q⟩:=dJ e';cases c with
   |ref a=>exact ⟨a::rs,by rw[q];rfl⟩
   |_=>cases h
  ·unfold dN at e;rw[List.dropWhile_cons_of_neg h] at e;exact ⟨[],beq_iff_eq.mp e⟩
def kY (self:Value):∀ rs:List Addr,refuseLoop self "__setattr__" (rs.map Value.ref++b9)=pure ()
 | []=>PySem.F.store_ValueError.passes self
 |a::r=>by rw[map_cons,List.cons_append,refuseLoop_ref];exact kY self r
structure cW (K:W.Frag) (C:Addr):Prop where
 mt:W.typeIn K (.ref C)=some (.type "type")
 ov:(W.clsIn K C).any (λcd=>dN cd.mro)=true
 hd:W.hasDictIn K C=true
 ga:W.findIn K (.ref C) "__getattribute__"=some (some (.builtin "BaseException.__getattribute__"))
 gn:W.findIn K (.ref C) "__getattr__"=some none
 sa:W.findIn K (.ref C) "__setattr__"=some (some (.builtin "object.__setattr__"))
def cW.mro {K:W.Frag}(c:cW K C):∃ (cd:ClassData) (rs:List Addr),W.clsIn K C=some cd/\cd.mro=rs.map Value.ref++b9:=by
 obtain ⟨cd,h1,h2⟩:=W.any_some c.ov;obtain ⟨rs,h3⟩:=dJ h2;exact ⟨cd,rs,h1,h3⟩
def qj (h:b9.contains v=true):(rs.map Value.ref++b9).contains v=true:=by
 rw[List.contains_eq_mem,decide_eq_true_eq] at h⊢;exact im _ h
def vb:(rs.map Value.ref++b9).isEmpty=false:=by cases rs<;>rfl
def cW.sub {K:W.Frag}(c:cW K C)(h:b9.contains v=true):W.mroIn K C v=some true:=by
 obtain ⟨cd,rs,h1,h2⟩:=c.mro;unfold W.mroIn;rw[h1,Option.bind_some,h2,if_neg (by rw[vb];decide),qj h]
variable {R:Result->Shared->Prop}
def rV {tk:Tok}{odo:Option Obj}(X:K.In s.heap)(I:W.InstAt s.heap x ox C odo)(c:cW K C)(ht:W.findIn K (.ref C) name=some none)
  (h:wpAny (model prog w) A.in1 (storeInOwnDict (.ref x) (.ref C) (.str name tk) name v false)
   (λfin s'=>match fin with| .done f=>R (.ok f) s'| .again c'=>c'.quiet=true/\codeAny (model prog w) A c' R s') (λe s'=>R (.error e) s') s):
  codeAny (model prog w) A (.call (.builtin "object.__setattr__") ⟨[.ref x,.str name tk,v],[]⟩) R s:=by
 have SF:=PySem.F.store_object;obtain ⟨cd,rs,hc,hm⟩:=c.mro;have sub:Looks (model prog w) s.heap (isInstance (.ref x) (.type "object")) true:=I.type.andThen (looks_mroIn X (c.sub (by decide+kernel)));refine codeAny_call_builtin SF.slot.plain SF.entry (@check_slot (model prog w) _ _ s "object.__setattr__" "object" "__setattr__" (.ref x) [.str name tk,v] [] _ SF.kind SF.split sub (SF.args (.ref x) (.str name tk) v) ?_);have hl:Looks (model prog w) s.heap (mroOf (.ref C)) cd.mro:=(looks_clsIn X hc).andThen .now;rw[osa_eq,refuse_eq];refine ad (ad (I.type.here (ad (hl.here ?_))));rw[hm,kY];refine am (ad (I.type.here (ad ((looks_findIn X ht).here (ad (am ?_))))));exact h
end
variable {Q:NC}{u:Value}
section
variable {X:Cx}{Y:ND}{U:St}{H:Hp}{s:Shared}{a C dx:Addr}{fs:List (Str×V)}{f:Str}{v:V}{A:Around}{E:NC}{fr:Bool}
def xu {b:Bool}(I:Inv X Y U H s)(e:H a=some (.exc C (some dx) fs fr))(c:cW X.K C)(n:ft X.K C f)(l:fs.lookup f=some v)
  (h:∀ u s',Inv X Y U H s'->RelV v u->Q u s'):wpAny (model X.prog X.w) A (getAttr (.ref a) f b) Q E s:=by
 obtain ⟨⟨vs,ho,_⟩,z⟩:=I.hok a _ e;rcases z with ⟨z,_⟩|⟨d,ed,_,_,_,mA,hn,r,_⟩
 ·cases z
 cases ed;obtain ⟨u,hu,ru⟩:=dz.some_of (v:=v) (o:=mA f) (by rw[<-l];exact r f);obtain ⟨od,hod,hl⟩:=jg hn;refine Dd (ox:={ cls:=.ref C,dict:=some dx,data:=.fields vs }) (od:=od) I.b6 ⟨ho,rfl,rfl,hod⟩ c.ga c.gn (c.sub (by decide+kernel)) (W.findObj_own c.hd n rfl (by rw[hl,hu])) (nF ru) (h u _ (I.tok _) ru)
def tB {y:V}{Q:NB}(I:Inv X Y U H s)(e:H a=some (.exc C (some dx) fs fr))(c:cW X.K C)(n:ft X.K C f)(hl:fs.length<1000)(ry:RelV y u)
  (h:∀ s',Inv X Y U (upd H a (.exc C (some dx) (cX f y fs) fr)) s'->Q () s'):wpAny (model X.prog X.w) A (setAttr (.ref a) f u) Q E s:=by
 obtain ⟨⟨vs,ho,zz⟩,z⟩:=id (I.hok a _ e);rcases z with ⟨z,_⟩|⟨d,ed,hown,_,hne,mA,hn,r,wi⟩
 ·cases z
 cases ed;obtain ⟨od,hod,hlk⟩:=jg hn;have hz:(fs.map (·.1)).length<=bn:=by rw[ce,sizeLine_eq];omega
 have J:W.InstAt s.heap a { cls:=.ref C,dict:=some dx,data:=.fields vs } C (some od):=⟨ho,rfl,rfl,hod⟩;refine W.set_plain I.b6 J c.sa (rV (s:={ s with toks:=s.toks+1 }) I.b6 J c n ?_);obtain ⟨cd,hc,hd'⟩:=W.any_some c.hd;refine ad (am (ad (ad (wpAny_loadPart ho (ad (W.Looks.here (s:={ s with toks:=s.toks+1 }) (W.looks_clsIn I.b6 hc) ?_))))));rw[hd'];refine am (a:=some dx) (ad (am (ad ?_)));refine wpAny_nsSet1 (s:={ s with toks:=s.toks+1 }) hn λh' hn2 hs2=>?_
 obtain ⟨oD,esD,epD,hoD,hdD,hcD⟩:=hn2.count (PySem.Within.cons f u wi);refine ad (wpAny_lookBehind hoD (by rw[hdD];exact pastItsLine_dict (Nat.le_trans hcD (by rw[length_cons];omega))) ?_);refine am (h _ ?_);refine I.write (x:=a) (e:=dx) (by rw[e];exact True.intro) (.inr hown) (λb q hb z=>(hs2.2 b hb).trans z) ⟨oD,hoD⟩ ?_;refine ⟨⟨vs,(hs2.2 _ (Ne.symm hne)).trans ho,zz⟩,.inr ⟨dx,rfl,by rw[ah hne];exact hown,?_,hne,_,hn2,λg=>?_,λg hg=>?_⟩⟩
 ·have:=fv f y fs;omega
 ·show dz ((cX f y fs).lookup g) (if g=f then some u else mA g);rw[fh]
  by_cases q:g=f
  ·rw[if_pos q,if_pos q];exact ry
  ·rw[if_neg q,if_neg q];exact r g
 ·by_cases q:g=f
  ·rw[q];exact (dv f y fs).1
  ·refine (dv f y fs).2 g (wi g λz=>hg ?_);show (if g=f then some u else mA g)=none;rw[if_neg q];exact z
def tV {y:V}{Q:NB}(I:Inv X Y U H s)(e:H a=some (.exc C none fs fr))(c:cW X.K C)(n:ft X.K C f)(ry:RelV y u)
  (h:∀ d s',H d=none->Inv X Y U (upd (upd H d (.own a)) a (.exc C (some d) [(f,y)] fr)) s'->Q () s'):wpAny (model X.prog X.w) A (setAttr (.ref a) f u) Q E s:=by
 obtain ⟨⟨vs,ho,zz⟩,z⟩:=id (I.hok a _ e);have hfs:fs=[]:=by
  rcases z with ⟨_,z⟩|⟨d,ed,_⟩
  ·exact z
  ·cases ed
 subst hfs;have J:W.InstAt s.heap a { cls:=.ref C,dict:=none,data:=.fields vs } C none:=⟨ho,rfl,rfl,True.intro⟩;refine W.set_plain I.b6 J c.sa (rV (s:={ s with toks:=s.toks+1 }) I.b6 J c n ?_);obtain ⟨cd,hc,hd'⟩:=W.any_some c.hd;refine ad (am (ad (ad (wpAny_loadPart ho (ad (W.Looks.here (s:={ s with toks:=s.toks+1 }) (W.looks_clsIn I.b6 hc) ?_))))));rw[hd'];have hlt:=ut ho;have hxs:a≠s.heap.objs.size:=pi hlt;have ho1:(s.heap.push { cls:=.type "dict",data:=.dict #[] }).get? a=some { cls:=.ref C,dict:=none,data:=.fields vs }:=ul _ ho;refine ad (wpAny_alloc' ?_);refine ad (wpAny_update' ho1 ?_);refine am ?_;have hgd:((s.heap.push { cls:=.type "dict",data:=.dict #[] }).update a λo=>{ o with dict:=some s.heap.objs.size }).get? s.heap.objs.size=some { cls:=.type "dict",data:=.dict #[] }:=
  (Heap.get?_update_ne _ _ _ _ hxs.symm).trans (Heap.get?_push_at rfl rfl)
 have hga:((s.heap.push { cls:=.type "dict",data:=.dict #[] }).update a λo=>{ o with dict:=some s.heap.objs.size }).get? a=some { cls:=.ref C,dict:=some s.heap.objs.size,data:=.fields vs }:=
  Heap.get?_update_self _ ho1 rfl
 have hnd:((s.heap.push { cls:=.type "dict",data:=.dict #[] }).update a λo=>{ o with dict:=some s.heap.objs.size }).Ns s.heap.objs.size (λ_=>none):=
  ⟨_,#[],_,hgd,rfl,λe he=>absurd he (by simp),λ_=>rfl⟩
 show wpAny _ _ (storeInDict s.heap.objs.size (.str f _) f u) _ _ _;unfold storeInDict newKeyGuard;refine ad (am (ad (wpAny_nsSet1 (Heap.Ns1.of_empty hnd) λh' hn2 hs2=>?_)));obtain ⟨oD,esD,epD,hoD,hdD,hcD⟩:=hn2.count (PySem.Within.cons f u PySem.Within.nil);refine ad (wpAny_lookBehind hoD (by rw[hdD];exact pastItsLine_dict (Nat.le_trans hcD (by rw[length_cons,length_nil,sizeLine_eq];omega))) ?_);have hd0:H s.heap.objs.size=none:=I.hok.fresh (re _);refine am (h s.heap.objs.size _ hd0 ?_);have e':upd H s.heap.objs.size (.own a) a=some (.exc C none [] fr):=by rw[ah hxs];exact e
 have I1:Inv X Y U (upd H s.heap.objs.size (.own a)) { s with heap:=s.heap.push { cls:=.type "dict",data:=.dict #[] },toks:=s.toks+1 }:=
  I.laid (a:=s.heap.objs.size) (o:=.own a) (t':=s.toks+1) (λb u q=>ul _ q) (re _) ⟨_,v4 s.heap rfl⟩
 have I2:=I1.write (x:=a) (e:=a) (o:=.exc C (some s.heap.objs.size) [] fr) (t':=s.toks+1) (h':=(s.heap.push { cls:=.type "dict",data:=.dict #[] }).update a λo=>{ o with dict:=some s.heap.objs.size })
  (by rw[e'];exact True.intro) (.inl rfl) (λb q hb z=>(Heap.get?_update_ne _ _ _ _ hb).trans z) ⟨_,hga⟩
  ⟨⟨vs,hga,zz⟩,.inr ⟨_,rfl,by rw[ah hxs.symm,aA],Nat.zero_le _,hxs.symm,_,Heap.Ns1.of_empty hnd,λ_=>True.intro,λy hy=>absurd rfl hy⟩⟩
 have ga':h'.get? a=some { cls:=.ref C,dict:=some s.heap.objs.size,data:=.fields vs }:=(hs2.2 a hxs).trans hga;have I3:=I2.write (x:=a) (e:=s.heap.objs.size) (o:=.exc C (some s.heap.objs.size) [(f,y)] fr) (t':=s.toks+1+1) (h':=h') (by rw[aA];exact True.intro) (.inr (by rw[ah hxs.symm,aA]))
  (λb q hb z=>(hs2.2 b hb).trans z) ⟨oD,hoD⟩
  ⟨⟨vs,ga',zz⟩,.inr ⟨_,rfl,by rw[ah hxs.symm,ah hxs.symm,aA],by show 1<=1000;decide,hxs.symm,_,hn2,λg=>?_,λg hg=>?_⟩⟩
 ·rw[BE] at I3;exact I3
 ·show dz (List.lookup g [(f,y)]) (if g=f then some u else none)
  by_cases q:g=f
  ·have hb:(g ==f)=true:=beq_iff_eq.mpr q;simp only[List.lookup,hb,if_pos q];exact ry
  ·have hb:(g ==f)=false:=beq_eq_false_iff_ne.mpr q;simp only[List.lookup,hb,if_neg q];exact True.intro
 ·by_cases q:g=f
  ·rw[q];simp
  ·exact absurd (show (if g=f then some u else none)=none by rw[if_neg q]) hg
end
section
variable {X:Cx}{Y:ND}{U:St}{H:Hp}{s:Shared}{a C:Addr}{dx:Option Addr}{fs:List (Str×V)}{f:Str}{v:V}{A:Around}{E:NC}{fr:Bool}
def Inv.fields {vs':Array Value}{h':Heap}{t':Nat}(I:Inv X Y U H s)(e:H a=some (.exc C dx fs fr))(hs:vs'.size=6)(h1:fr=true->vs'[1]? =some Value.none)
  (ha:h'.get? a=some { cls:=.ref C,dict:=dx,data:=.fields vs' }) (k:∀ b u,b≠a->s.heap.get? b=some u->h'.get? b=some u):Inv X Y U H { s with heap:=h',toks:=t' }:=by
 have I2:=I.write (x:=a) (e:=a) (o:=.exc C dx fs fr) (t':=t') (h':=h') (by rw[e];exact True.intro) (.inl rfl) k ⟨_,ha⟩ ?_
 ·have:upd H a (.exc C dx fs fr)=H:=by
   funext b
   by_cases hb:b=a
   ·rw[hb,aA,e]
   ·rw[ah hb]
  rw[this] at I2;exact I2
 ·obtain ⟨_,z⟩:=id (I.hok a _ e);refine ⟨⟨vs',ha,hs,h1⟩,?_⟩;rcases z with z|⟨d,ed,d1,z1,ne,mA,⟨od,es,ep,e2,c⟩,r⟩
  ·exact .inl z
  ·exact .inr ⟨d,ed,by rw[ah ne];exact d1,z1,ne,mA,⟨od,es,ep,k _ _ ne e2,c⟩,r⟩
def lV {R:Result->Shared->Prop}(I:Inv X Y U H s)(e:H a=some (.exc C dx fs fr))(c:cW X.K C)
  (h:∀ s',Inv X Y U H s'->R (.ok (.ret .none)) s'):codeAny (model X.prog X.w) A (.call (.builtin "ValueError.__init__") ⟨[.ref a,u],[]⟩) R s:=by
 have F:=PySem.F.excCall_ValueError;obtain ⟨⟨vs,ho,hsz,h1⟩,z⟩:=id (I.hok a _ e);have L4:Looks (model X.prog X.w) s.heap (isInstance (.ref a) (.type "ValueError")) true:=(show Looks (model X.prog X.w) s.heap (typeOf (.ref a)) (.ref C) from (Looks.ld ho).andThen .now).andThen (looks_mroIn I.b6 (c.sub (by decide+kernel)));refine codeAny_call_builtin F.init.plain F.initEntry ?_;simp only[checkBuiltinCall,F.initKind,F.initSplit,F.initRow];refine ad (L4.here ?_);simp only[Bool.not_true,Bool.false_eq_true,if_false];have hshort:("ValueError" != "*")=true:=by decide
 have h0:∃ a0,vs[0]? =some a0:=⟨_,Array.getElem?_eq_getElem nofun⟩;obtain ⟨a0,h0⟩:=h0;obtain ⟨hp,g,d,t,os⟩:=s;unfold Bind.checkArgs;have hn:Looks (model X.prog X.w) hp (typeOf (.ref a)) (.ref C):=(Looks.ld ho).andThen .now;obtain ⟨cd,rs,hcl,_⟩:=c.mro;obtain ⟨oc,od,sl,hC⟩:∃ oc od sl,hp.get? C=some ⟨oc,od,.cls cd,sl⟩:=by
  unfold W.clsIn at hcl
  split at hcl
  ·rename_i ho';cases hcl;exact ⟨_,_,_,I.b6 _ _ ho'⟩
  ·cases hcl
 repeat (first|with_reducible refine wpAny_load hC ?_|wp_step)
 rw[h0];have ho1:(hp.push { cls:=.type "tuple",data:=.seq #[u] }).get? a=some { cls:=.ref C,dict:=dx,data:=.fields vs }:=ul _ ho;have hq:=Heap.get?_update_self (Obj.mapFields (·.setIfInBounds 0 (.ref hp.objs.size))) ho1 (Obj.isFreed_of_fields (Obj.data_mapFields rfl _));have fin:R (.ok (.ret Value.none)) ⟨(hp.push { cls:=.type "tuple",data:=.seq #[u] }).update a (Obj.mapFields (·.setIfInBounds 0 (.ref hp.objs.size))),g,d,t,os⟩:=by
  refine h _ (I.fields (vs':=vs.setIfInBounds 0 (.ref hp.objs.size)) (t':=t) e (by simpa using hsz) (λz=>?_) hq λb q hb z'=>?_)
  ·rw[Array.getElem?_setIfInBounds_ne (by decide)];exact h1 z
  ·exact (Heap.get?_update_ne _ _ _ _ hb).trans (ul _ z')
 refine am (ad (wpAny_setField ho1 rfl nofun ?_));cases a0<;>first|exact am (am fin)|exact wpAny_letGo (am fin)
def tO (I:Inv X Y U H s)(e:H a=some (.exc C dx fs fr))(c:cW X.K C)
  (h:∀ s',Inv X Y U H s'->Q .none s'):wpAny (model X.prog X.w) A (call (.builtin "ValueError.__init__") [.ref a,u]) Q E s:=wpAny_call (lV I e c h)
end
abbrev ck (K:W.Frag)(C:Addr):Bool:=match K.lookup C with
 |some ⟨_,_,.cls cd,sl⟩=>!cd.abstract&& !cd.hasDel&&(sl.toList[4]?).join ==some (.builtin "ValueError.__new__")&&dN cd.mro&&cd.mro.contains (.ref C)&&
   W.specialIn K (.ref C) "__call__" ==some (some (.builtin "type.__call__"))&&W.instIn K (.ref C) (.type "type") ==some true
 |_=>false
structure zY (M:Model) (h:Heap) (C:Addr):Prop where
 obj:∃ oc od cd sl,h.get? C=some ⟨oc,od,.cls cd,sl⟩/\cd.abstract=false/\cd.hasDel=false/\cd.mro.isEmpty=false
 made:W.Looks M h (Bind.madeBy (.ref C)) (some "ValueError.__new__")
 base:W.Looks M h (Bind.staticBase (.ref C)) (.ref C)
 self:W.Looks M h (isSubtype (.ref C) (.ref C)) true
 top:W.Looks M h (isSubtype (.ref C) (.type "ValueError")) true
 no1:W.Looks M h (isSubtype (.ref C) (.type "AttributeError")) false
 no2:W.Looks M h (isSubtype (.ref C) (.type "NameError")) false
 call:W.Looks M h (specialOf (.ref C) "__call__") (some (.builtin "type.__call__"))
 typ:W.Looks M h (isInstance (.ref C) (.type "type")) true
def vd {n:String}(h:b9.contains (.type n)=false):(rs.map Value.ref++b9).contains (.type n)=false:=by
 induction rs with
 |nil=>exact h
 |cons a r ih=>rw[map_cons,List.cons_append,List.contains_cons,ih];rfl
def nH {K:W.Frag}{M:Model}{h:Heap}(X:K.In h){C:Addr}(e:ck K C=true):zY M h C:=by
 unfold ck at e
 split at e
 ·rename_i oc od cd sl ho;simp only[nl,Bool.not_eq_true',beq_iff_eq] at e;obtain ⟨⟨⟨⟨⟨⟨e1,e2⟩,e3⟩,e4⟩,e5⟩,e7⟩,e8⟩:=e;obtain ⟨rs,em⟩:=dJ e4;have hc:W.clsIn K C=some cd:=by unfold W.clsIn;rw[ho]
  have hm:Looks M h (mroOf (.ref C)) cd.mro:=(looks_clsIn X hc).andThen .now;have ne:cd.mro.isEmpty=false:=by rw[em];exact vb
  obtain ⟨c,l,hl⟩:∃ c l,cd.mro=c::l:=by
   cases q:cd.mro with
   |nil=>rw[q] at ne;cases ne
   |cons c l=>exact ⟨c,l,rfl⟩
  have made:Looks M h (Bind.madeBy (.ref C)) (some "ValueError.__new__"):=by
   intro A Q E s k q;unfold Bind.madeBy;refine ad (hm A _ E s k ?_);rw[hl,forIn_cons];refine ad (ad (ad (ad (wpAny_loadPart (k _ _ (X _ _ ho)) (am ?_)))));dsimp only;rw[<-Array.getElem?_toList,e3];exact am (am (am q))
  have mro:∀ {v b},cd.mro.contains v=b->W.mroIn K C v=some b:=λ{v b} q=>by
   unfold W.mroIn;rw[hc,Option.bind_some,if_neg (by rw[ne];decide),q]
  refine ⟨⟨oc,od,cd,sl,X _ _ ho,e1,e2,ne⟩,made,?_,looks_mroIn X (mro e5),looks_mroIn X (mro (by rw[em];exact qj (by decide+kernel))),looks_mroIn X (mro (by rw[em];exact vd (by decide+kernel))),looks_mroIn X (mro (by rw[em];exact vd (by decide+kernel))),looks_specialIn X e7,looks_instIn X e8⟩;intro A Q E s k q;unfold Bind.staticBase;refine ad (hm A _ E s k ?_);rw[hl,forIn_cons];exact ad (ad (ad (made A _ E s k (am (am (am q))))))
 ·cases e
variable {rest:List Value}
section
variable {prog:Program}{w:World}{A:Around}{K:W.Frag}{C:Addr}{R:Result->Shared->Prop}{h:Heap}{g:Array GenState}{d:Drawn}{t:Nat}{os:OsState}
def EL (Y:zY (model prog w) h C)(hz:rest.length<=bn)
  (hq:R (.ok (.ret (.ref (h.objs.size+1)))) ⟨(h.push { cls:=.type "tuple",data:=.seq rest.toArray }).push { cls:=.ref C,data:=.fields #[.ref h.objs.size,.none,.none,.none,.bool false,.none] },g,d,t,os⟩):
  codeAny (model prog w) A (.call (.builtin "ValueError.__new__") ⟨.ref C::rest,[]⟩) R ⟨h,g,d,t,os⟩:=by
 obtain ⟨⟨oc,od,cd,sl,hC,e1,e2,e4⟩,made,base,self,top,no1,no2,call,typ⟩:=Y;have F:=PySem.F.excBase_ValueError;have here:Looks (model prog w) h (Bind.madeHere "BaseException.__new__" (.ref C)) ():=base.andThen (made.andThen (Looks.of_pure (by simp only[Option.map_some,F.canon,bne_self_eq_false,Bool.false_eq_true,if_false])));refine codeAny_call_builtin_code (Code.quiet_builtin _ F.quiet) ?_;simp only[checkBuiltinCall,F.newKind,F.newSplit,F.newRow]
 repeat (first|simp only[bne_self_eq_false,Bool.false_eq_true,if_false]|lk)
 refine codeAny_builtinAt F.entry ?_;unfold Builtin.«BaseException.__new__»;refine PySem.wpAt_bind ?_;show PySem.wpAt _ _ _ (stack >>= _) _ _ _;refine PySem.wpAt_bind (PySem.wpAt_stack λp below=>PySem.wpAt_of_wpAny ?_);have hends:=F.ends
 wp_walk
 refine PySem.wpAt_of_wpAny ?_;rw[F.owner]
 repeat (first|simp only[Bool.not_true,Bool.false_eq_true,if_false]|lk)
 rw[if_neg (show ¬ (rest.toArray.size>bn) by rw[ii];omega)];unfold newObjAsIs;refine ad (wpAny_alloc (am (ad ?_)));show wpAny _ _ (newObjAsIs _ _ _) _ _ _;unfold newObjAsIs classHasDel;refine ad (wpAny_alloc (ad (ad (wpAny_load (ul _ (ul _ hC)) (am ?_)))));rw[e2];refine am (am ?_);show R _ _;rw[Heap.size_push];exact hq
def Hn {fI:Addr}(X:K.In h)(hz:rest.length<=bn)(hm:ck K C=true)(hi:W.findIn K (.ref C) "__init__"=some (some (.ref fI))) (hf:W.typeIn K (.ref fI)=some (.type "function"))
  (hq:codeAny (model prog w) (A.under (.builtin "type.__call__" ⟨.ref C::rest,[]⟩)) (.call (.ref fI) ⟨.ref (h.objs.size+1)::rest,[]⟩) (InitBack (h.objs.size+1) R)
   ⟨(h.push { cls:=.type "tuple",data:=.seq rest.toArray }).push { cls:=.ref C,data:=.fields #[.ref h.objs.size,.none,.none,.none,.bool false,.none] },g,d,t,os⟩):
  codeAny (model prog w) A (.call (.ref C) ⟨rest,[]⟩) R ⟨h,g,d,t,os⟩:=by
 have Y:=nH (M:=model prog w) X hm;have Y':=Y;obtain ⟨⟨oc,od,cd,sl,hC,e1,e2,e4⟩,made,base,self,top,no1,no2,call,typ⟩:=Y;refine codeAny_of_tree ?_;show wpAny _ _ (callAny (.ref C) _) _ _ _;refine nd_load hC ?_;show wpAny _ _ (callAny.viaDunder (.ref C) _) _ _ _;unfold callAny.viaDunder;refine ad (call.at ?_);dsimp only;rw[tc_bind];refine ad (am (ad (am ?_)));refine am (a:=Fin.again (.call (.builtin "type.__call__") ⟨.ref C::rest,[]⟩)) (And.intro rfl ?_);refine codeAny_call_builtin_at (Code.quiet_builtin _ (by decide+kernel)) entry_typeCall (check_slot tc_kind tc_split typ (tc_args _ _ _) ?_);unfold Builtin.«type.__call__»;have hmr:Looks (model prog w) h (mroOf (.ref C)) cd.mro:=((Looks.ld (part:=none) hC).andThen .now).andThen .now
 repeat (first|simp only[e4,Bool.false_eq_true,if_false]|with_reducible refine wpAny_call ?_|lk)
 refine EL Y' hz ?_;have k:∀ b o,h.get? b=some o->((h.push { cls:=.type "tuple",data:=.seq rest.toArray }).push { cls:=.ref C,data:=.fields #[.ref h.objs.size,.none,.none,.none,.bool false,.none] }).get? b=some o:=λb o e=>ul _ (ul _ e)
 have hx:((h.push { cls:=.type "tuple",data:=.seq rest.toArray }).push { cls:=.ref C,data:=.fields #[.ref h.objs.size,.none,.none,.none,.bool false,.none] }).get? (h.objs.size+1)=some { cls:=.ref C,data:=.fields #[.ref h.objs.size,.none,.none,.none,.bool false,.none] }:=by heap_get
 have t1:Looks (model prog w) ((h.push { cls:=.type "tuple",data:=.seq rest.toArray }).push { cls:=.ref C,data:=.fields #[.ref h.objs.size,.none,.none,.none,.bool false,.none] }) (typeOf (.ref (h.objs.size+1))) (.ref C):=(Looks.ld hx).andThen .now;have s1:=self.keeps k;have i1:=(looks_findIn (M:=model prog w) X hi).keeps k;have b1:=(bind_fn (M:=model prog w) X (.ref (h.objs.size+1)) hf).keeps k;unfold isInstance callSpecial? specialOf
 repeat (first|with_reducible refine wpAny_call ?_|lk)
 refine codeAny_mono hq λr s' z=>?_
 rcases r with e|(v|_|_|_)<;>first|exact z|exact z.elim|skip
 obtain ⟨rfl,z⟩:=z;exact am (am z)
def B3 (X:K.In h)(hz:rest.length<=bn)(hm:ck K C=true)(hi:W.findIn K (.ref C) "__init__"=some (some (.builtin "ValueError.__init__")))
  (hq:codeAny (model prog w) (A.under (.builtin "type.__call__" ⟨.ref C::rest,[]⟩)) (.call (.builtin "ValueError.__init__") ⟨.ref (h.objs.size+1)::rest,[]⟩) (InitBack (h.objs.size+1) R)
   ⟨(h.push { cls:=.type "tuple",data:=.seq rest.toArray }).push { cls:=.ref C,data:=.fields #[.ref h.objs.size,.none,.none,.none,.bool false,.none] },g,d,t,os⟩):
  codeAny (model prog w) A (.call (.ref C) ⟨rest,[]⟩) R ⟨h,g,d,t,os⟩:=by
 have Y:=nH (M:=model prog w) X hm;have Y':=Y;obtain ⟨⟨oc,od,cd,sl,hC,e1,e2,e4⟩,made,base,self,top,no1,no2,call,typ⟩:=Y;refine codeAny_of_tree ?_;show wpAny _ _ (callAny (.ref C) _) _ _ _;refine nd_load hC ?_;show wpAny _ _ (callAny.viaDunder (.ref C) _) _ _ _;unfold callAny.viaDunder;refine ad (call.at ?_);dsimp only;rw[tc_bind];refine ad (am (ad (am ?_)));refine am (a:=Fin.again (.call (.builtin "type.__call__") ⟨.ref C::rest,[]⟩)) (And.intro rfl ?_);refine codeAny_call_builtin_at (Code.quiet_builtin _ (by decide+kernel)) entry_typeCall (check_slot tc_kind tc_split typ (tc_args _ _ _) ?_);unfold Builtin.«type.__call__»;have hmr:Looks (model prog w) h (mroOf (.ref C)) cd.mro:=((Looks.ld (part:=none) hC).andThen .now).andThen .now
 repeat (first|simp only[e4,Bool.false_eq_true,if_false]|with_reducible refine wpAny_call ?_|lk)
 refine EL Y' hz ?_;have k:∀ b o,h.get? b=some o->((h.push { cls:=.type "tuple",data:=.seq rest.toArray }).push { cls:=.ref C,data:=.fields #[.ref h.objs.size,.none,.none,.none,.bool false,.none] }).get? b=some o:=λb o e=>ul _ (ul _ e)
 have hx:((h.push { cls:=.type "tuple",data:=.seq rest.toArray }).push { cls:=.ref C,data:=.fields #[.ref h.objs.size,.none,.none,.none,.bool false,.none] }).get? (h.objs.size+1)=some { cls:=.ref C,data:=.fields #[.ref h.objs.size,.none,.none,.none,.bool false,.none] }:=by heap_get
 have t1:Looks (model prog w) ((h.push { cls:=.type "tuple",data:=.seq rest.toArray }).push { cls:=.ref C,data:=.fields #[.ref h.objs.size,.none,.none,.none,.bool false,.none] }) (typeOf (.ref (h.objs.size+1))) (.ref C):=(Looks.ld hx).andThen .now;have s1:=self.keeps k;have i1:=(looks_findIn (M:=model prog w) X hi).keeps k;have b1:Looks (model prog w) ((h.push { cls:=.type "tuple",data:=.seq rest.toArray }).push { cls:=.ref C,data:=.fields #[.ref h.objs.size,.none,.none,.none,.bool false,.none] }) (bindSpecial (.builtin "ValueError.__init__") (.ref (h.objs.size+1))) (.builtin "ValueError.__init__",[.ref (h.objs.size+1)]):=Looks.of_pure (PySem.F.excCall_ValueError.init.bind _);unfold isInstance callSpecial? specialOf
 repeat (first|with_reducible refine wpAny_call ?_|lk)
 refine codeAny_mono hq λr s' z=>?_
 rcases r with e|(v|_|_|_)<;>first|exact z|exact z.elim|skip
 obtain ⟨rfl,z⟩:=z;exact am (am z)
end
end L2
namespace L2
open PySem PySem.Spec PySem.W PyProof.Rows
abbrev bM (e:Addr)(h h':Heap):Prop:=∀ oe vs,h.get? e=some oe->oe.data=.fields vs->∃ vs',h'.get? e=some { oe with data:=.fields vs' }/\vs'.size=vs.size
abbrev Fl (as:List Addr)(h h':Heap):Prop:=∀ b o,b ∉ as->h.get? b=some o->h'.get? b=some o
abbrev BB (h:Heap)(e T:Addr)(fl:Value):Prop:=∃ oe vs oT ts,h.get? e=some oe/\oe.data=.fields vs/\vs[1]? =some (.ref T)/\T≠e/\h.get? T=some oT/\oT.data=.fields ts/\ts[3]? =some fl
def bM.trans {e:Addr}{h h1 h2:Heap}(a:bM e h h1)(b:bM e h1 h2):bM e h h2:=λoe vs x y=>by
 obtain ⟨vs1,x1,z1⟩:=a oe vs x y;obtain ⟨vs2,x2,z2⟩:=b _ vs1 x1 rfl;exact ⟨vs2,x2,z2.trans z1⟩
def bM.same {e:Addr}{h h':Heap}(k:h'.get? e=h.get? e):bM e h h':=λoe vs x y=>⟨vs,by rw[k,x,<-y],rfl⟩
variable {Q:NB}
section
variable {M:Model}{A:Around}{E:NC}{s:Shared}{base:Heap}{env:Env}{outer:List Env}{L e:Addr}
def nJ {oe:Obj}{vs:Array Value}{head:Value}{hadNext:Bool}(hfr:A.frames=some (env::outer))(hl:s.heap.FunFrames base (env::outer))(hf:env.frame=some L)
  (he:s.heap.get? e=some oe) (hd:oe.data=.fields vs) (hsz:1<vs.size)
  (q:∀ h' T,s.heap.objs.size<=T->BB h' e T (rawInt L)->bM e s.heap h'->(∀ b o,b≠e->s.heap.get? b=some o->∃ sl,h'.get? b=some { o with slots:=sl })->Fl (e::pD (env::outer)) s.heap h'->Q () { s with heap:=h' }):
  wpAny M A (do let a <-frameOf env;let pl <-entryPlaceOf L hadNext;let b <-EntryCells.newEntry head a .none (rawInt L) .none pl;setField (.ref e) 1 b) Q E s:=by
 have hne:e ∉ pD (env::outer):=λhm=>by
  obtain ⟨_,o,ho,hnf⟩:=hl.mem hm;rw[he] at ho;cases ho;exact hnf vs hd
 refine ad (wpAny_frameOf_fun hfr hl hf λh1 s1=>ad (wpAny_entryPlaceOf λpl hpl=>?_));unfold EntryCells.newEntry newFields;refine ad (wpAny_newObj_type ?_ (hpl.sizeOk5 _ _ _ _ _));have e1:h1.get? e=some oe:=(s1.2.1 e hne).trans he;have e2:=ul (h:=h1) { cls:=.type "traceback",dict:=none,data:=.fields ([head,.ref L,.none,rawInt L,.none]++(if pl.isEmpty then sK 6 Value.none else pl)).toArray } e1;have hTe:h1.objs.size≠e:=Nat.ne_of_gt (ut e1);have d3:=Obj.data_mapFields hd (·.setIfInBounds 1 (Value.ref h1.objs.size));have e3:=Heap.get?_update_self (Obj.mapFields (·.setIfInBounds 1 (Value.ref h1.objs.size))) e2 (Obj.isFreed_of_fields d3);have t3:=(Heap.get?_update_other (h1.push { cls:=.type "traceback",dict:=none,data:=.fields ([head,.ref L,.none,rawInt L,.none]++(if pl.isEmpty then sK 6 Value.none else pl)).toArray })
  (Obj.mapFields (·.setIfInBounds 1 (Value.ref h1.objs.size))) (Ne.symm hTe)).trans (v4 h1 rfl)
 have keep:∀ b o,b≠e->h1.get? b=some o->((h1.push { cls:=.type "traceback",dict:=none,data:=.fields ([head,.ref L,.none,rawInt L,.none]++(if pl.isEmpty then sK 6 Value.none else pl)).toArray }).update e (Obj.mapFields (·.setIfInBounds 1 (Value.ref h1.objs.size)))).get? b=some o:=
  λb o hb hq=>(Heap.get?_update_other _ _ (Ne.symm hb)).trans (ul _ hq)
 refine wpAny_setField e2 hd hsz (q _ h1.objs.size ?_ ?_ ?_ (λb o hb ho=>?_) λb o hb ho=>?_)
 ·rw[s1.1];exact re _
 ·refine ⟨_,_,_,_,e3,d3,by simp[hsz],hTe,t3,rfl,?_⟩
  first|(simp;done)|(rcases hpl with rfl|⟨_,_,_,_,_,_,_,rfl⟩<;>simp)
 ·intro oe' vs' x y;rw[he] at x;cases x;rw[hd] at y;cases y;refine ⟨vs.setIfInBounds 1 (.ref h1.objs.size),?_,by simp⟩;rw[e3];obtain ⟨c0,d0,dt,sl0⟩:=oe;cases hd
  rfl
 ·obtain ⟨sl,z⟩:=s1.2.2 b o ho;exact ⟨sl,keep b _ hb z⟩
 ·exact keep b o (λz=>hb (by rw[z];exact mo)) ((s1.2.1 b λz=>hb (dL _ z)).trans ho)
abbrev F6 (n₀:Nat)(ps:ND)(H:Hp)(h:Heap)(e:Addr):Prop:=(∃ oe vs,h.get? e=some oe/\oe.data=.fields vs/\vs[1]? =some Value.none)\/∃ T,n₀<=T/\H T=none/\(∀ p ∈ ps,p.1≠T)/\BB h e T .none
def Dn {n₀:Nat}{ps:ND}{H:Hp}(hfr:A.frames=some (env::outer))(hl:s.heap.FunFrames base (env::outer))(hf:env.frame=some L)(sf:F6 n₀ ps H s.heap e)(h0:n₀<=s.heap.objs.size)(hps:∀ p ∈ ps,p.1<s.heap.objs.size)
  (q:∀ h' T T0,s.heap.objs.size<=T->n₀<=T0->(H T0=none\/s.heap.objs.size<=T0)->(∀ p ∈ ps,p.1≠T0)->(∀ o,s.heap.get? T0=some o->∃ ts,o.data=.fields ts)->BB h' e T (rawInt L)->bM e s.heap h'->h'.FunFrames base (env::outer)->(∀ b o,b≠e->b≠T0->s.heap.get? b=some o->∃ sl,h'.get? b=some { o with slots:=sl })->Fl (e::T0::pD (env::outer)) s.heap h'->(∀ b o,s.heap.get? b=some o->∃ o',h'.get? b=some o')->Q () { s with heap:=h' }):
  wpAny M A (noteFrame (.ref e) env) Q E s:=by
 have fun_of:∀ {h':Heap}{as:List Addr},(∀ b ∈ as,∀ o,s.heap.get? b=some o->∃ vs,o.data=.fields vs)->(∀ b o,b ∉ as->s.heap.get? b=some o->∃ sl,h'.get? b=some { o with slots:=sl })->h'.FunFrames base (env::outer):=
  λ{h' as} ha k=>hl.of_keeps λb o ho hnf=>by
   by_cases hb:b ∈ as
   ·obtain ⟨vs,z⟩:=ha b hb o ho;exact absurd z (hnf vs)
   ·obtain ⟨sl,z⟩:=k b o hb ho;exact ⟨_,z,rfl⟩
 unfold noteFrame;simp only[hf];rcases sf with ⟨oe,vs,he,hd,h1⟩|⟨T0,hT0,hH0,hp0,oe,vs,oT,ts,he,hd,h1,hTe,hT,hdT,h3⟩
 ·skip
  refine ad (ap he hd h1 ?_);rw[if_neg (by decide)];refine nJ hfr hl hf he hd (Array.getElem?_eq_some_iff.mp h1).1 λh' T hT st fo sl sy=>?_
  refine q h' T s.heap.objs.size hT h0 (.inr (re _)) (λp hp=>pi (hps p hp)) (λo z=>absurd (ut z) (Nat.lt_irrefl _)) st fo ?_ (λb o hb _ ho=>sl b o hb ho) (λb o hb ho=>sy b o (λz=>hb ?_) ho) λb o ho=>?_
  ·refine fun_of (as:=[e]) (λb hb o ho=>?_) λb o hb ho=>sl b o (by simpa using hb) ho
   obtain rfl:b=e:=by simpa using hb
   rw[he] at ho;cases ho;exact ⟨vs,hd⟩
  ·rcases nb.mp z with z|z
   ·exact nb.mpr (.inl z)
   ·exact dL _ (dL _ z)
  ·by_cases hb:b=e
   ·subst hb;rw[he] at ho;cases ho;obtain ⟨vs',z,_⟩:=fo _ _ he hd;exact ⟨_,z⟩
   ·obtain ⟨sl',z⟩:=sl b o hb ho;exact ⟨_,z⟩
 ·refine ad (ap he hd h1 ?_);rw[if_pos (show (Value.ref T0 != Value.none)=true from by simp)];refine ad (ap hT hdT h3 ?_);rw[if_neg (show ¬ ((Value.none ==rawInt L)=true) from by simp[rawInt])];refine ad (wpAny_setField hT hdT (Array.getElem?_eq_some_iff.mp h3).1 ?_);have other:∀ b,b≠T0->(s.heap.update T0 (Obj.mapFields (·.setIfInBounds 3 Value.none))).get? b=s.heap.get? b:=λb hb=>Heap.get?_update_other _ _ (Ne.symm hb)
  have self':=Heap.get?_update_self (Obj.mapFields (·.setIfInBounds 3 Value.none)) hT (Obj.isFreed_of_fields (Obj.data_mapFields hdT _));have rec':∀ b o,s.heap.get? b=some o->(∀ vs,o.data≠.fields vs)->b≠T0:=λb o hb hnf z=>by
   rw[z,hT] at hb;cases hb;exact hnf ts hdT
  refine nJ (base:=base) hfr (hl.of_keeps λb o hb hnf=>⟨o,(other b (rec' b o hb hnf)).trans hb,rfl⟩) hf ((other e (Ne.symm hTe)).trans he) hd (Array.getElem?_eq_some_iff.mp h1).1 λh' T hTn st fo sl sy=>?_
  have hTn':s.heap.objs.size<=T:=by
   have z:(s.heap.update T0 (Obj.mapFields (·.setIfInBounds 3 Value.none))).objs.size<=T:=hTn
   rwa [Heap.size_after_update] at z
  refine q h' T T0 hTn' hT0 (.inl hH0) hp0 (λo z=>by rw[hT] at z;cases z;exact ⟨ts,hdT⟩) st (bM.trans (bM.same (other e (Ne.symm hTe))) fo) ?_ (λb o hb hb0 ho=>sl b o hb ((other b hb0).trans ho)) (λb o hb ho=>?_) λb o ho=>?_
  ·refine fun_of (as:=[e,T0]) (λb hb o ho=>?_) λb o hb ho=>sl b o (λz=>hb (by simp[z])) ((other b λz=>hb (by simp[z])).trans ho)
   rcases nb.mp hb with hb|hb
   ·subst hb;rw[he] at ho;cases ho;exact ⟨vs,hd⟩
   ·obtain rfl:b=T0:=by simpa using hb
    rw[hT] at ho;cases ho;exact ⟨ts,hdT⟩
  ·have n1:b≠e:=λz=>hb (by simp[z])
   have n2:b≠T0:=λz=>hb (by simp[z])
   refine sy b o (λz=>hb ?_) ((other b n2).trans ho);rcases nb.mp z with z|z
   ·exact nb.mpr (.inl z)
   ·exact dL _ (dL _ z)
  ·by_cases hb:b=e
   ·subst hb;obtain ⟨vs',z,_⟩:=fo _ _ ((other b (Ne.symm hTe)).trans he) hd;exact ⟨_,z⟩
   ·by_cases hb0:b=T0
    ·subst hb0;obtain ⟨sl',z⟩:=sl b _ hb self';exact ⟨_,z⟩
    ·obtain ⟨sl',z⟩:=sl b o hb ((other b hb0).trans ho);exact ⟨_,z⟩
def vC {T:Addr}{fl:Value}(st:BB s.heap e T fl)
  (q:∀ h',BB h' e T .none->(∀ b,b≠T->h'.get? b=s.heap.get? b)->(∃ o,s.heap.get? T=some o)->(∃ o,h'.get? T=some o)->(∃ oT ts,h'.get? T=some oT/\oT.data=.fields ts)->Q () { s with heap:=h' }):wpAny M A (setFlight (.ref e) none) Q E s:=by
 obtain ⟨oe,vs,oT,ts,he,hd,h1,hTe,hT,hdT,h3⟩:=st;have hz:3<ts.size:=(Array.getElem?_eq_some_iff.mp h3).1;have other:∀ b,b≠T->(s.heap.update T (Obj.mapFields (·.setIfInBounds 3 ((none:Option Addr).elim Value.none λf=>rawInt f)))).get? b=s.heap.get? b:=λb hb=>Heap.get?_update_other _ _ (Ne.symm hb)
 have self':=Heap.get?_update_self (Obj.mapFields (·.setIfInBounds 3 ((none:Option Addr).elim Value.none λf=>rawInt f))) hT (Obj.isFreed_of_fields (Obj.data_mapFields hdT _));unfold setFlight;refine ad (ap he hd h1 ?_);rw[if_pos (show (Value.ref T != Value.none)=true from by simp)];refine wpAny_setField hT hdT hz (q _ ⟨oe,vs,_,_,(other e (Ne.symm hTe)).trans he,hd,h1,hTe,self',Obj.data_mapFields hdT _,by simp[hz]⟩ other ⟨_,hT⟩ ⟨_,self'⟩ ⟨_,_,self',Obj.data_mapFields hdT _⟩)
end
variable {A:Around}
section
variable {X:Cx}{U:St}{H:Hp}{s:Shared}{e C:Addr}{dx:Option Addr}{fs:List (Str×V)}{h':Heap}
def Inv.zD {Y:ND}(I:Inv X Y U H s):Inv X [] U H s:=I.n8 λ_ z=>absurd z (by simp)
def Inv.Jb {T0:Addr}{as:List Addr}(I:Inv X [] U H s)(hpn:∀ p ∈ X.pn,p.1≠T0) (he:H e=some (.exc C dx fs false)) (has:as=pD X.stack)
  (hT:X.s₀.heap.objs.size<=T0) (hT0:H T0=none\/s.heap.objs.size<=T0) (hTd:∀ o,s.heap.get? T0=some o->∃ ts,o.data=.fields ts)
  (fo:bM e s.heap h') (sl:∀ b o,b≠e->b≠T0->s.heap.get? b=some o->∃ sl,h'.get? b=some { o with slots:=sl }) (sy:Fl (e::T0::as) s.heap h') (th:∀ b o,s.heap.get? b=some o->∃ o',h'.get? b=some o'):
  Inv X [] U H { s with heap:=h' }:=by
 subst has;obtain ⟨⟨vs,ho,hsz,_⟩,z⟩:=id (I.hok e _ he);have hH0:H T0=none:=by
  rcases hT0 with z|z
  ·exact z
  ·exact I.hok.fresh z
 have nT:∀ {b:Addr}{o:Obj},s.heap.get? b=some o->(∀ vs,o.data≠.fields vs)->b≠T0:=λ{b o} hb hn z=>by
  subst z;obtain ⟨ts,q⟩:=hTd _ hb;exact hn ts q
 have j3:∀ b o,H b=none->b≠T0->b ∉ pD X.stack->s.heap.get? b=some o->h'.get? b=some o:=λb o hb h0 hf hq=>sy b o (λm=>by
  rcases nb.mp m with m|m
  ·rw[m,he] at hb;cases hb
  ·rcases nb.mp m with m|m
   ·exact h0 m
   ·exact hf m) hq
 have EJ:∀ a u,H a=some u->a≠e->∀ o,s.heap.get? a=some o->h'.get? a=some o:=λa u ha ne o hq=>sy a o (λm=>by
  rcases nb.mp m with m|m
  ·exact ne m
  ·rcases nb.mp m with m|m
   ·rw[m,hH0] at ha;cases ha
   ·rw[I.pY a m] at ha;cases ha) hq
 refine I.step (g':=s.gens) (t':=s.toks) (d':=s.drawn) (ch:=[T0]) (h':=h') (λb hb=>?_) (λb o hL hfs hch hq hn=>?_) (λb o hL hfs hch hq hn=>?_) (λb o _ _ hn=>hn) (λb o _ hq=>th b o hq) (λ_ _ q=>q) (λ_ _ _ q=>q) (λb ps q=>⟨#[],by rw[q];simp⟩) (λm hm=>?_) (λa u ha=>?_) I.bare
 ·obtain rfl:b=T0:=by simpa using hb
  refine ⟨.inr hT,?_,λx c hc z=>?_,λp hp=>hpn p (by simpa using hp)⟩
  ·obtain ⟨m,⟨o,es,ep,ho',hd,_⟩,_⟩:=I.loc;intro z;exact nT ho' (λvs q=>by rw[hd] at q;cases q) z.symm
  ·obtain ⟨v,o,ho',hd⟩:=I.cell x c hc;exact nT ho' (λvs q=>by rw[hd] at q;cases q) z
 ·refine j3 b o hn (by simpa using hch) (λm=>?_) hq;rcases nb.mp (I.iY b m) with z|z
  ·exact hL z
  ·exact hfs z
 ·exact sl b o (λz=>by rw[z,he] at hn;cases hn) (by simpa using hch) hq
 ·obtain ⟨o,es,ep,ho',hd,r⟩:=hm;have n1:X.env.locals≠e:=λz=>by have:=I.free;rw[z,he] at this;cases this
  obtain ⟨sl',q⟩:=sl _ o n1 (nT ho' λvs q=>by rw[hd] at q;cases q) ho';exact ⟨_,es,ep,q,hd,r⟩
 ·by_cases hae:a=e
  ·subst hae;rw[he] at ha;cases ha;obtain ⟨vs',q,hz⟩:=fo _ vs ho rfl;refine ⟨⟨vs',q,hz.trans hsz,λy=>by cases y⟩,?_⟩;rcases z with z|⟨d,ed,d1,z1,ne,mA,⟨od,es,ep,e2,c⟩,r⟩
   ·exact .inl z
   ·exact .inr ⟨d,ed,d1,z1,ne,mA,⟨od,es,ep,EJ d _ d1 ne _ e2,c⟩,r⟩
  ·refine (I.hok a u ha).j3 (λb o hb hq=>?_) (λ_ q=>q) λ_ _ q=>q
   rcases hb with hb|hb
   ·subst hb;exact EJ b u ha hae o hq
   ·refine EJ b _ hb (λz=>?_) o hq;rw[z,he] at hb;cases hb
abbrev yP (P:Program)(w:World):uI:=λouter H s E u s'=>∃ (e:Addr) (H':Hp) (C:Addr) (dx:Option Addr) (fs:List (Str×V)) (T:Addr),u=.ref e/\s'.os=s.os/\AllBare s'.gens/\Un (pD outer) [] H H' s.heap s'.heap/\gq P w H' s'.heap/\
 H' e=some (.exc C dx fs false)/\s.heap.objs.size<=T/\H' T=none/\BB s'.heap e T .none/\E e H'
abbrev HP (X:Cx)(E:St->XK):Prop:=∀ (U:St) (H:Hp) (s:Shared) (e C:Addr) (dx:Option Addr) (fs:List (Str×V)),Inv X [] U H s->F6 X.s₀.heap.objs.size X.pn H s.heap e->H e=some (.exc C dx fs false)->E U e H->X.xe (.ref e) s
def nO {E:St->XK}(x:HP X E):Passes (yP X.prog X.w) X E:=by
 intro Y U H s u s' I h;obtain ⟨e,H',C,dx,fs,T,rfl,os,bare,un,hok,he,hT,hT0,st,q⟩:=h;have J:Inv X [] U H' s':=Inv.zS (ch:=[]) I.zD os un hok bare (λb z=>absurd z (by simp));exact x U H' s' e C dx fs J (.inr ⟨T,Nat.le_trans I.sz hT,hT0,λp hp=>pi (ol (ut (I.pin p (mem_append_left _ hp)).1) hT),st⟩) he q
def nq {M:Model}{E E':NC}{Q:Shared->Prop}(I:Inv X [] U H s)(hs:X.stack=X.env::X.outer)(hf:X.env.frame=some X.env.locals)(sf:F6 X.s₀.heap.objs.size X.pn H s.heap e)(he:H e=some (.exc C dx fs false))
  (q:∀ s' T,Inv X [] U H s'->s'.os=s.os->X.s₀.heap.objs.size<=T->H T=none->(∀ p ∈ X.pn,p.1≠T)->BB s'.heap e T .none->Q s'):
  wpAny M X.A (noteFrame (.ref e) X.env) (λ_ s1=>wpAny M X.A (setFlight (.ref e) none) (λ_ s2=>Q s2) E s1) E' s:=by
 have hl:s.heap.FunFrames X.base (X.env::X.outer):=hs▸I.stack;refine Dn (by rw[<-hs];exact I.ok.frames) hl hf sf I.sz (λp hp=>ut (I.pin p (mem_append_left _ hp)).1) λh1 T T0 hT hT0 hH0 hp0 hTd st fo fF sl sy th=>?_
 have I1:=I.Jb (T0:=T0) (as:=pD (X.env::X.outer)) (h':=h1) hp0 he (by rw[hs]) hT0 hH0 hTd fo sl sy th;have hHT:H T=none:=I.hok.fresh hT;have hpT:∀ p ∈ X.pn,p.1≠T:=λp hp=>pi (ol (ut (I.pin p (mem_append_left _ hp)).1) hT)
 refine vC (s:={ s with heap:=h1 }) st λh2 qd oth _ th2 rec2=>?_
 have I2:Inv X [] U H { s with heap:=h2 }:=by
  refine Inv.turned (s:={ s with heap:=h1 }) (it:=T) (h':=h2) (t':=s.toks) I1 (λb o hb hq=>(oth b hb).trans hq) hHT ?_ (.inr (Nat.le_trans I.sz hT)) (λx c hc z=>?_) λp hp=>hpT p (by simpa using hp)
  ·exact λz=>absurd (ol I.lt hT) (by rw[z];exact Nat.lt_irrefl _)
  ·obtain ⟨v,o,ho,_⟩:=I.cell x c hc;exact absurd (ol (ut ho) hT) (by rw[z];exact Nat.lt_irrefl _)
 exact q _ T I2 rfl (Nat.le_trans I.sz hT) hHT hpT qd
def xB {P:Program}{w:World}{K:W.Frag}{mg:NF}{base:Heap}{N:List Str}{qual:Str}{scope:Scope}{f:Addr}{cd:Value}{outer:List Env}{E:XK}:
  HP (xU (yP P w) P w K mg base N qual scope f cd A outer s H E) (λ_=>E):=by
 intro σ' H' s' e C dx fs I sf he q;show wpAny _ _ (do noteFrame (.ref e) _;setFlight (.ref e) none) _ _ s';refine ad (nq I rfl rfl sf he λs2 T J os hT hH _ st=>?_);exact ⟨e,H',C,dx,fs,T,rfl,J.os,J.bare,J.base,J.hok,he,hT,hH,st,q⟩
end
structure Kr (K:W.Frag) (C f:Addr):Prop where
 mks:ck K C=true
 init:W.findIn K (.ref C) "__init__"=some (some (.ref f))
 fn:W.isFn K (.ref f)=true
 kp:W.keepIn K (.ref C)=true
variable {us:List Value}{vs:List V}
section
variable {X:Cx}{Y:ND}{U:St}{H:Hp}{s:Shared}{C f:Addr}
def Inv.E4 (us:List Value)(I:Inv X Y U H s):Inv X Y U (upd H (s.heap.objs.size+1) (.exc C none [] true))
  { s with heap:=(s.heap.push { cls:=.type "tuple",data:=.seq us.toArray }).push { cls:=.ref C,data:=.fields #[.ref s.heap.objs.size,.none,.none,.none,.bool false,.none] } }:=by
 have I1:=I.kept (h':=s.heap.push { cls:=.type "tuple",data:=.seq us.toArray }) (t':=s.toks) λb u q=>ul _ q
 refine Inv.laid (s:={ s with heap:=s.heap.push { cls:=.type "tuple",data:=.seq us.toArray } }) (a:=s.heap.objs.size+1) (o:=.exc C none [] true) (t':=s.toks) I1 (λb u q=>ul _ q) (Nat.le_of_eq (Heap.size_push _ _)) ?_;refine ⟨⟨#[.ref s.heap.objs.size,.none,.none,.none,.bool false,.none],?_,rfl,λ_=>rfl⟩,.inl ⟨rfl,rfl⟩⟩;have:=v4 (s.heap.push { cls:=.type "tuple",data:=.seq us.toArray }) (o:={ cls:=.ref C,data:=.fields #[.ref s.heap.objs.size,.none,.none,.none,.bool false,.none] }) rfl
 rwa [Heap.size_push] at this
variable {CX:uI}{k:Nat}{fd:FuncData}{ps:List Str}{sp:Sp}{dvs:List V}{ds:List Value}{E:St->XK}{x m:Str}{p pos apos:Pos}{e o:Expr}{es:List Expr}{ta:TE}{t:TA}
abbrev AM (C:Addr)(sp:Sp)(dvs:List V)(E:St->XK)(t:TA):TE:=λU H Q=>t U H λvs H1=>vs.length<=1000/\∀ x,H1 x=none->sp (.ref x::(vs++dvs)) (upd H1 x (.exc C none [] true)) (λv H2=>v=.non/\Q (.ref x) H2) (E U)
def nu {Q:VK}(M:Kr X.K C f)(F:dm X.prog X.w X.K X.mg X.base CX k f fd ps sp)(hr:bU (k+1) X.A)(hb:Binds X.K fd ps ds)(hd:Vals dvs ds)
  (hx:Passes CX X E) (hz:us.length<=bn) (I:Inv X Y U H s) (r:Vals vs us)
  (h:∀ x,H x=none->sp (.ref x::(vs++dvs)) (upd H x (.exc C none [] true)) (λv H2=>v=.non/\Q (.ref x) H2) (E U)):
  wpAny (model X.prog X.w) X.A (call (.ref C) us) (EP X Y U Q) X.xe s:=by
 have hq:=h (s.heap.objs.size+1) (I.hok.fresh (Nat.le_succ _));have I2:=Inv.E4 (C:=C) us I;have r2:Vals (V.ref (s.heap.objs.size+1)::(vs++dvs)) (Value.ref (s.heap.objs.size+1)::(us++ds)):=.cons rfl (r.append hd);have hl:(Value.ref (s.heap.objs.size+1)::us++ds).length=ps.length:=by
  have e:=r2.length;rw[F.len _ _ _ _ hq] at e;exact e.symm
 obtain ⟨hh,g,d,tk,os⟩:=s;refine wpAny_call (Hn (fI:=f) I.b6 hz M.mks M.init (beq_iff_eq.mp M.fn) (codeAny_mono (F.run _ X.stack _ _ ⟨Value.ref (hh.objs.size+1)::us,[]⟩ (Value.ref (hh.objs.size+1)::(us++ds)) _ _ (E U) (hr.make C us [])
  (I2.jh.make C us []) (hb _ (Value.ref (hh.objs.size+1)::us) I2.b6 hl) r2 hq) λr s' hq'=>?_))
 cases r with
 |error e=>exact hx Y U _ _ e s' I2 hq'
 |ok fl=>
  cases fl with
  |ret u=>
   obtain ⟨v,H',J,rv,ev,q⟩:=I2.after hq';subst ev;obtain rfl:u=Value.none:=rv;exact ⟨rfl,.ref _,H',J,rfl,q⟩
  |next=>exact False.elim hq'
  |brk=>exact False.elim hq'
  |cont=>exact False.elim hq'
def AO (M:Kr X.K C f)(F:dm X.prog X.w X.K X.mg X.base CX k f fd ps sp)(hr:bU (k+1) X.A)(hg:Gl X x)(hm:X.mg x=some (.ref C))(hb:Binds X.K fd ps ds)(hd:Vals dvs ds)(hx:Passes CX X E)
  (ha:PA X (e::es) t) (hdb:(x ==("__debug__":Str))=false:=by decide) (he:bm (e::es) X.env=(false,eval e X.env)::bm es X.env:=by rfl) (hpl:(backTo pos (bm es X.env)).any (·.1)=false:=by rfl):
  PE X (.Call (.Name x p) (e::es) [] pos) (AM C sp dvs E t):=by
 intro Y s U H Q I h;refine bv (bN I hg hm ?_ hdb);refine W.callWith_K (h₀:=X.base) I.ok.mod.kin M.kp (aC (ha pos Y s U H _ I h) λus s1 ⟨vs,H1,I1,r,z,q⟩=>⟨I1.b6,?_⟩) he hpl;exact nu M F hr hb hd hx (by rw[nil_append,<-r.length];exact Nat.le_of_lt (dh z)) I1 r q
structure G0 (K:W.Frag) (C:Addr):Prop where
 mks:ck K C=true
 init:W.findIn K (.ref C) "__init__"=some (some (.builtin "ValueError.__init__"))
 kp:W.keepIn K (.ref C)=true
 cls:cW K C
abbrev BZ (C:Addr)(t:TA):TE:=λU H Q=>t U H λvs H1=>vs.length=1/\∀ x,H1 x=none->Q (.ref x) (upd H1 x (.exc C none [] true))
def t9 {Q:VK}(M:G0 X.K C)(I:Inv X Y U H s)(r:Vals vs us)(h1:vs.length=1)(h:∀ x,H x=none->Q (.ref x) (upd H x (.exc C none [] true))):
  wpAny (model X.prog X.w) X.A (call (.ref C) us) (EP X Y U Q) X.xe s:=by
 have hq:=h (s.heap.objs.size+1) (I.hok.fresh (Nat.le_succ _));have I2:=Inv.E4 (C:=C) us I;obtain ⟨u,rfl⟩:∃ u,us=[u]:=by
  have e:=r.length;rw[h1] at e
  match us,e with
  | [u],_=>exact ⟨u,rfl⟩
 obtain ⟨hh,g,d,tk,os⟩:=s;refine wpAny_call (B3 I.b6 (by rw[sizeLine_eq];exact pc rfl) M.mks M.init (lV (C:=C) (dx:=none) (fs:=[]) (fr:=true) I2 aA M.cls λs' J=>?_));exact ⟨rfl,.ref _,_,J,rfl,hq⟩
def A5 (M:G0 X.K C)(hg:Gl X x)(hm:X.mg x=some (.ref C))(ha:PA X (e::es) t)(hdb:(x ==("__debug__":Str))=false:=by decide) (he:bm (e::es) X.env=(false,eval e X.env)::bm es X.env:=by rfl) (hpl:(backTo pos (bm es X.env)).any (·.1)=false:=by rfl):
  PE X (.Call (.Name x p) (e::es) [] pos) (BZ C t):=by
 intro Y s U H Q I h;refine bv (bN I hg hm ?_ hdb);refine W.callWith_K (h₀:=X.base) I.ok.mod.kin M.kp (aC (ha pos Y s U H _ I h) λus s1 ⟨vs,H1,I1,r,z,q⟩=>⟨I1.b6,?_⟩) he hpl;exact t9 M I1 r z q
structure MC (K:W.Frag) (B:Addr):Prop where
 ga:W.specialIn K (.ref B) "__getattribute__"=some (some (.builtin "type.__getattribute__"))
 rd:W.readsIn K B (.type "type")=true
 fi:W.findCls K (.ref B) (.type "type") "__init__"=some (.val (.builtin "ValueError.__init__"))
abbrev K5 (K:W.Frag)(t:TA):TE:=λU H Q=>t U H λvs H1=>∃ a C dx fs fr v,vs=[.ref a,v]/\H1 a=some (.exc C dx fs fr)/\cW K C/\Q .non H1
def F9 {B:Addr}{pl:Sem Bool}{np:Pos}(b:MC X.K B)(hg:Gl X x)(hm:X.mg x=some (.ref B))(ha:PA X (e::es) t)(hdb:(x ==("__debug__":Str))=false:=by decide)
  (hst:bm (e::es) X.env=(false,eval e X.env)::bm es X.env:=by rfl) (hpl:(backTo pos (bm es X.env)).any (·.1)=false:=by rfl)
  (ht:eval (.Call (.Attribute (.Name x np) "__init__" apos) (e::es) [] pos) X.env=(do
   let ov <-eval (.Name x np) X.env
   standAt apos.atName
   let (f,first) <-holding [ov] (getMethod ov "__init__" pl)
   callWith pos f first (backTo pos (bm (e::es) X.env)) (backToKw pos (keywordEach [] X.env))):=by rfl):
  PE X (.Call (.Attribute (.Name x np) "__init__" apos) (e::es) [] pos) (K5 X.K t):=by
 intro Y s U H Q I h;refine W.methodCall_KW (pl:=pl) (bN I hg hm ?_ hdb) ht;refine W.method_cls I.b6 b.ga (W.cls_value I.b6 b.rd b.fi (by decide+kernel) ?_);refine PyProof.Rows.callWith_builtin1 (aC (ha pos Y _ U H _ (I.tok _) h) λus s1 ⟨vs,H1,I1,r,a,C,dx,fs,fr,v,ev,ea,c,q⟩=>?_) hst hpl;subst ev;cases r with
 |cons r1 r2=>
  cases r2 with
  |cons r3 r4=>
   cases r4;cases r1;exact tO I1 ea c λs' J=>⟨.non,H1,J,rfl,q⟩
structure Nd (K:W.Frag) (C f:Addr):Prop where
 ga:W.specialIn K (.ref C) "__getattribute__"=some (some (.builtin "type.__getattribute__"))
 rd:W.readsIn K C (.type "type")=true
 fi:W.findCls K (.ref C) (.type "type") "__init__"=some (.val (.ref f))
 kp:W.keepIn K (.ref f)=true
end
section
open PySem.Builtin PySem.Builtin.ObjectAttr
variable {prog:Program}{w:World}{A:Around}{E:NC}{s:Shared}{K:W.Frag}{x C:Addr}{ox:Obj}{odo:Option Obj}
structure zN (K:W.Frag) (C:Addr):Prop where
 ha:W.findIn K (.ref C) "__class__"=some (some (.builtin "object.__class__"))
 hn:W.specialIn K (.builtin "object.__class__") "__get__"=some (some (.builtin "getset_descriptor.__get__"))
 htk:W.takesIn K (.builtin "object.__class__")=some true
def Dx {Q:NA}(X:K.In s.heap)(I:W.InstAt s.heap x ox C odo)(c:cW K C)(z:zN K C)(hfo:W.findObj K C odo "__class__"=some (.bind (.builtin "getset_descriptor.__get__") (.builtin "object.__class__")))
  (h:Q (some (.ref C)) { s with toks:=s.toks+1 }):wpAny (model prog w) A (getAttr? (.ref x) "__class__") Q E s:=by
 obtain ⟨hp,g,d,t,os⟩:=s;have L0:=I.type (M:=model prog w);have L1:=looks_findIn (M:=model prog w) X c.ga;have L2':=looks_findIn (M:=model prog w) X c.gn;have L3:=looks_find (M:=model prog w) X I hfo;have L4:Looks (model prog w) hp (isInstance (.ref x) (.type "BaseException")) true:=I.type.andThen (looks_mroIn X (c.sub (by decide+kernel)));unfold getAttr? getAttrBy? getAttrBy;refine ad (wpAny_mkText (ad (wpAny_attempt (bd (ad (L0.at (ad (L1.at ?_))))))));have e1:(Value.builtin "BaseException.__getattribute__" ==Value.builtin "object.__getattribute__")=false:=by decide+kernel
 dsimp only;rw[e1,Bool.and_false];show wpAny _ _ (getAttrByItsOwn _ _ _ _ _ _) _ _ _;unfold getAttrByItsOwn hookBefore;refine ad (L2'.at ?_);refine ad (wpAny_attempt (bd ?_));unfold callGetattribute;show wpAny _ _ (boundAndCalled _ _ _) _ _ _;unfold boundAndCalled;rw[PySem.F.attr_ValueError.ga.bind];refine ad (am (wpAny_call (codeAny_call_builtin PySem.F.attr_ValueError.ga.plain PySem.F.entry_bexc_ga ?_)));refine @check_slot (model prog w) _ _ _ "BaseException.__getattribute__" "BaseException" "__getattribute__" (.ref x) [.str "__class__" t] [] _ sh nU L4 (PySem.F.args_bexc_ga (.ref x) (.str "__class__" t)) ?_;unfold Builtin.«object.__getattribute__»;refine ad (am (ad (am (ad (L0.at (ad (L3.at ?_)))))));show wpAny _ _ (holding [_] (call _ [_,.ref x,.ref C]) >>= ret) _ _ _;refine ad (bd (wpAny_call (class_get (s:=⟨hp,g,d,t+1,os⟩) (ox:=ox) (od:=odo) X I (c.sub (by decide+kernel)) ?_)));refine am ?_;show wpAny _ _ (handedOut (.ref C)) _ _ _;exact handed_on rfl (am h)
def yf (c:cW K C)(z:zN K C):W.findObj K C odo "__class__"=some (.bind (.builtin "getset_descriptor.__get__") (.builtin "object.__class__")):=by
 obtain ⟨cd,hc,_⟩:=W.any_some c.hd;unfold W.findObj;rw[hc,Option.bind_some,z.ha,Option.bind_some];simp[z.hn,z.htk]
def yS (c:cW K C)(z:zN K C):W.KitX K (.ref x) (.ref C) (λh=>W.InstAt h x ox C odo) where
 ty:=λ_ _ _ I=>I.type
 it:=λ_ _ X _=>by
  obtain ⟨cdD,hcD,_⟩:=W.any_some c.hd;unfold W.clsIn at hcD
  split at hcD
  ·rename_i c' d' cd' sl' ho;intro A' Q' E' s' k q;unfold isType loadHead;exact ad (wpAny_loadPart (k _ _ (X _ _ ho)) (am q))
  ·cases hcD
 ne:=λh tp dd its n sl X htp=>by
  obtain ⟨cdD,hcD,_⟩:=W.any_some c.hd;refine Bool.eq_false_iff.mpr λq=>?_
  have e:C=tp:=Value.ref.inj (beq_iff_eq.mp q);subst e;unfold W.clsIn at hcD
  split at hcD
  ·rename_i c' d' cd' sl' ho;have z:=(X _ _ ho).symm.trans htp;cases z
  ·cases hcD
 ca:=λX I k=>Dx X I c z (yf c z) k
end
section
variable {X:Cx}{Y:ND}{U:St}{H:Hp}{s:Shared}{a C:Addr}{dx:Option Addr}{fs:List (Str×V)}{fr:Bool}
def zH (I:Inv X Y U H s)(e:H a=some (.exc C dx fs fr)):∃ ox odo,W.InstAt s.heap a ox C odo:=by
 obtain ⟨⟨vs,ho,_⟩,z⟩:=id (I.hok a _ e);rcases z with ⟨rfl,_⟩|⟨d,rfl,_,_,_,mA,⟨od,es,ep,hod,_⟩,_⟩
 ·exact ⟨_,none,ho,rfl,rfl,True.intro⟩
 ·exact ⟨_,some od,ho,rfl,rfl,hod⟩
def zt {E:NC}{Q:NC}{cv:Value}{b:Bool}(I:Inv X Y U H s)(e:H a=some (.exc C dx fs fr))(c:cW X.K C)(z:zN X.K C)(k:W.kitOne X.K (.ref C) cv=some b)
  (h:∀ tk,Q (.bool b) { s with toks:=tk }):wpAny (model X.prog X.w) A (call (.builtin "isinstance") [.ref a,cv]) Q E s:=by
 obtain ⟨ox,odo,J⟩:=zH I e;exact W.kia_one (yS (ox:=ox) (odo:=odo) c z) I.b6 J k (λz=>nomatch z) h
end
end L2
namespace L2
open PySem PySem.Spec PySem.W PyProof.Rows
variable {dx:Option Addr}
section
variable {X:Cx}{f:Str}{o value ex:Expr}{ta tv te:TE}{pos pos':Pos}{E:St->XK}
def tQ {h:Heap}{a:Addr}{C:Addr}{vs:Array Value}{M:Model}(ho:h.get? a=some { cls:=.ref C,dict:=dx,data:=.fields vs }):W.Looks M h (isType (.ref a)) false:=by
 intro A Q E s k q;unfold isType loadHead;exact ad (wpAny_loadPart (k _ _ ho) (am q))
abbrev Hs (K:W.Frag)(E:St->XK)(te:TE):TS:=λD U H=>te U H λv H1=>∃ a C dx fs,v=.ref a/\H1 a=some (.exc C dx fs true)/\cW K C/\E U a (upd H1 a (.exc C dx fs false))
def yr (hx:HP X E)(hc:X.calm=true)(he:PE X ex te):PS X (.Raise (some ex) none pos) (Hs X.K E te):=by
 intro Y s U H D I h;rw[arm_exec_Raise];simp only[evalOpt,Option.map];refine ad (wpAny_standAt ?_);unfold raiseStmt;refine ad (ad (aC (he Y s U H _ I h) λu s1 ⟨y,H1,I1,ry,a,C,dx,fs,ey,ea,c,q⟩=>ad (wpAny_standAt (am ?_))));subst ey;obtain rfl:u=Value.ref a:=ry;obtain ⟨⟨vs,ho,hsz,h1⟩,z⟩:=id (I1.hok a _ ea);have h1':=h1 rfl;have hq:X.xe (.ref a) s1:=by
  have J:Inv X [] U (upd H1 a (.exc C dx fs false)) s1:=by
   have J1:=I1.zD.write (x:=a) (e:=a) (o:=.exc C dx fs false) (t':=s1.toks) (h':=s1.heap) (by rw[ea];exact True.intro) (.inl rfl) (λ_ _ _ q=>q) ⟨_,ho⟩ ?_
   ·exact J1
   ·refine ⟨⟨vs,ho,hsz,λy=>by cases y⟩,?_⟩;rcases z with z|⟨d,ed,d1,z1,ne,r⟩
    ·exact .inl z
    ·exact .inr ⟨d,ed,by rw[ah ne];exact d1,z1,ne,r⟩
  exact hx U _ s1 a C dx fs J (.inl ⟨_,vs,ho,rfl,h1'⟩) aA q
 obtain ⟨hp,g,d,tk,os⟩:=s1;have L0:Looks (model X.prog X.w) hp (typeOf (.ref a)) (.ref C):=(Looks.ld ho).andThen .now;have L1:Looks (model X.prog X.w) hp (isType (.ref a)) false:=tQ ho;have L2':Looks (model X.prog X.w) hp (isInstance (.ref a) (.type "BaseException")) true:=L0.andThen (looks_mroIn I1.b6 (c.sub (by decide+kernel)));have L5:Looks (model X.prog X.w) hp (typeOf (.ref C)) (.type "type"):=looks_typeIn I1.b6 c.mt;have tt:(Value.type "type" ==Value.type "type")=true:=by decide
 repeat (first|simp only[Bool.false_eq_true,if_false,if_true,tt]|lk)
 rw[h1'];refine am ?_;rw[if_neg (by decide)];exact am (wpAny_raiseNew_none (I1.ok.hd hc) hq)
end
@[reducible]def Cx.bP (X:Cx) (e:Value):Cx:={ X with A:=X.A.mark (some e),calm:=false,xe:=λ_ _=>False }
variable {xe:NC}{ps:ND}{D:Ends}
section
variable {X:Cx}{Y:ND}{U:St}{H:Hp}{s:Shared}
def Cx.Ok.bP (ok:X.Ok)(e:Value):(X.bP e).Ok:=
 ⟨ok.mod,ok.kind,ok.glob,ok.blt,ok.above,ok.inj,ok.has,ok.cab,(λz=>by cases z),ok.frames,ok.stk,ok.exf,ok.bs,ok.bsz,ok.noex,ok.exfs,ok.j6,ok.frf⟩
def Inv.bP (I:Inv X Y U H s)(e:Value):Inv (X.bP e) Y U H s:=⟨I.ok.bP e,I.os,I.bare,I.base,I.loc,I.cell,I.free,I.freeC,I.pin,I.hok,I.len⟩
def Inv.kr {e:Value}(ok:X.Ok)(I:Inv (X.bP e) Y U H s):Inv X Y U H s:=⟨ok,I.os,I.bare,I.base,I.loc,I.cell,I.free,I.freeC,I.pin,I.hok,I.len⟩
def fB {M:Model}{A:Around}{E:NC}{Q:NB}{i:Nat}{n:Str}{pos:Pos}(I:Inv X Y U H s)(hN:X.N.Nodup)(hi:X.N[i]? =some n)(hn:X.env.scope.names.lookup n=some .local)
  (h:∀ s',Inv X Y (U.set i none) H s'->Q () s'):wpAny M A (do bindName X.env n .none;unbindBehindTheSuite X.env n pos) Q E s:=by
 have hcls:(X.env.scope.kind ==.class||(X.env.scope.kind ==.module&&X.env.locals != X.env.globals))=false:=by rw[I.ok.kind];rfl
 refine ad (wpAny_bindName (bw I hN hi (.inl hn) (v:=.non) rfl (λs1 I1=>?_) (.inr hn)));obtain ⟨m,hm,hl⟩:=I1.loc;unfold unbindBehindTheSuite;refine wpAny_onRaise ?_;unfold unbindName;refine ad (wpAny_point (ad ?_));unfold deleteName;have hk:X.env.kindOf n=some .local:=hn;have hiσ:i<U.length:=by rw[I.len];exact (tz.mp hi).1
 have hmn:(m n).isSome=true:=by
  obtain ⟨u,_,l⟩:=hl i n .non hi (by rw[getElem?_set_self hiσ]) (.inl hn);rcases l with ⟨_,q⟩|⟨q,_⟩
  ·rw[q];rfl
  ·rcases q with q|q<;>(rw[hk] at q;cases q)
 simp only[hk,hcls];rw[if_neg (by decide)];refine ad (wpAny_nsDel_keeps hm λh2 v hn2 hs2=>?_);rw[hmn];simp only[if_true,Bool.not_true,Bool.false_eq_true,if_false];refine am (wpAny_point (h { s1 with heap:=h2 } ?_));obtain ⟨oL,esL,epL,hoL,_⟩:=id hm;have Bd:=I1.Bd;refine ⟨I1.ok,I1.os,I1.bare,⟨λb o e n hb hx=>?_,λb o e n hb hx=>?_,I1.base.free,λb o e hx=>?_,I1.base.tups,I1.base.frzs,I1.base.tbls⟩,⟨_,hn2,λj y v' e1 e2 e3=>?_⟩,λy c e=>?_,I1.free,I1.freeC,λp hp=>?_,λa u ha=>?_,by rw[length_set];exact I.len⟩
 ·exact (hs2.2 b (pi (ol (ut e) I1.ok.above))).trans (I1.base.keep b o e n hb hx)
 ·obtain ⟨sl,q⟩:=I1.base.slot b o e n hb hx;exact ⟨sl,(hs2.2 b (pi (ol (ut e) I1.ok.above))).trans q⟩
 ·obtain ⟨o',q⟩:=I1.base.there b o e hx;exact ⟨o',(hs2.2 b (pi (ol (ut e) I1.ok.above))).trans q⟩
 ·have hj:j≠i:=λz=>by rw[z,getElem?_set_self hiσ] at e2;cases e2
  rw[getElem?_set_ne (Ne.symm hj)] at e2;obtain ⟨u,r,q⟩:=hl j y v' e1 (by rw[getElem?_set_ne (Ne.symm hj)];exact e2) e3;refine ⟨u,r,?_⟩;rcases q with ⟨k,e⟩|⟨k,c,e,z⟩
  ·refine .inl ⟨k,?_⟩;have ny:y≠n:=λz=>hj (k3 hN e1 (z▸hi))
   show (if y=n then v else m y)=some u;rw[if_neg ny];exact e
  ·exact .inr ⟨k,c,e,z.sameBut hs2 (Bd y c e)⟩
 ·obtain ⟨w',z⟩:=I1.cell y c e;exact ⟨w',z.sameBut hs2 (Bd y c e)⟩
 ·obtain ⟨e,n,ne,nf,d⟩:=I1.pin p hp;exact ⟨(hs2.2 p.1 ne).trans e,n,ne,nf,d⟩
 ·refine (I1.hok a u ha).j3 (λb o hb hq=>(hs2.2 b ?_).trans hq) (λ_ q=>q) λ_ _ q=>q
  rintro rfl;rcases hb with hb|hb
  ·rw[<-hb,I1.free] at ha;cases ha
  ·rw[I1.free] at hb;cases hb
@[reducible]def Cx.gu (X:Cx) (Y:ND) (xe:NC):Cx:={ X with pn:=X.pn++Y,xe:=xe }
def Cx.Ok.gu (ok:X.Ok)(Y:ND)(xe:NC):(X.gu Y xe).Ok:=
 ⟨ok.mod,ok.kind,ok.glob,ok.blt,ok.above,ok.inj,ok.has,ok.cab,ok.hd,ok.frames,ok.stk,ok.exf,ok.bs,ok.bsz,ok.noex,ok.exfs,ok.j6,ok.frf⟩
def Inv.gu (I:Inv X Y U H s)(xe:NC):Inv (X.gu Y xe) [] U H s:=
 ⟨I.ok.gu Y xe,I.os,I.bare,I.base,I.loc,I.cell,I.free,I.freeC,λp hp=>I.pin p (by simpa using hp),I.hok,I.len⟩
def Inv.gA (ok:X.Ok)(I:Inv (X.gu Y xe) ps U H s):Inv X Y U H s:=
 ⟨ok,I.os,I.bare,I.base,I.loc,I.cell,I.free,I.freeC,λp hp=>I.pin p (mem_append_left _ hp),I.hok,I.len⟩
def SP.gA {f:Flow}(ok:X.Ok)(h:SP (X.gu Y xe) ps D f s):SP X Y D f s:=by
 cases f with
 |next=>obtain ⟨σ',H',I,q⟩:=h;exact ⟨σ',H',I.gA ok,q⟩
 |brk=>obtain ⟨σ',H',I,q⟩:=h;exact ⟨σ',H',I.gA ok,q⟩
 |cont=>obtain ⟨σ',H',I,q⟩:=h;exact ⟨σ',H',I.gA ok,q⟩
 |ret u=>obtain ⟨v,σ',H',I,r,q⟩:=h;exact ⟨v,σ',H',I.gA ok,r,q⟩
def F4 {body:List Stmt}{h0:ExceptHandler}{hs:List ExceptHandler}{pos:Pos}{E':St->XK}(I:Inv X Y U H s)(hstk:X.stack=X.env::X.outer)(hfr:X.env.frame=some X.env.locals)
  (hb:∀ xe,HP (X.gu Y xe) E'->PassesOwn (model X.prog X.w) X.A X.env xe->wpAny (model X.prog X.w) X.A (execs body X.env) (SP (X.gu Y xe) [] D) xe s)
  (hh:∀ (U:St) (H:Hp) (s:Shared) (e C:Addr) (dx:Option Addr) (fs:List (Str×V)) (T:Addr),Inv X Y U H s->H e=some (.exc C dx fs false)->X.s₀.heap.objs.size<=T->H T=none->(∀ p ∈ X.pn++Y,p.1≠T)->BB s.heap e T .none->E' U e H->
   wpAny (model X.prog X.w) X.A (handleBy (.ref e) X.env (h0::hs)) (SP X Y D) X.xe s):
  wpAny (model X.prog X.w) X.A (exec (.Try body (h0::hs) [] [] pos) X.env) (SP X Y D) X.xe s:=by
 refine wpAny_Try_except (wpAny_mono (hb (λu s1=>wpAny (model X.prog X.w) X.A (noteFrame u X.env) (λ_ s2=>wpAny (model X.prog X.w) X.A (setFlight u none) (λ_ s3=>wpAny (model X.prog X.w) X.A (handleBy u X.env (h0::hs)) (SP X Y D) X.xe s3) X.xe s2) X.xe s1) ?_ PassesOwn.looking) (λf s1 h1=>?_) λ_ _ z=>z)
 ·intro σ' H' s' e C dx fs J sf he q;exact nq (X:=X.gu Y _) J hstk hfr sf he λs2 T J2 _ hT hH hp st=>hh σ' H' s2 e C dx fs T (J2.gA I.ok) he hT hH hp st q
 ·have h2:=SP.gA I.ok h1;cases f with
  |next=>exact wpAny_execs_nil h2
  |brk=>exact h2
  |cont=>exact h2
  |ret u=>exact h2
def qF {n x:Str}{np hpos:Pos}{b0:Stmt}{bP:List Stmt}{rest:List ExceptHandler}{i:Nat}{e C Ch T:Addr}{fs:List (Str×V)}{b:Bool}(I:Inv X Y U H s)(he:H e=some (.exc C dx fs false))
  (hT:X.s₀.heap.objs.size<=T) (hH:H T=none) (hp:∀ p ∈ X.pn++Y,p.1≠T) (st:BB s.heap e T .none) (c:cW X.K C) (ch:cW X.K Ch) (hsub:W.mroIn X.K C (.ref Ch)=some b) (hg:Gl X x) (hm:X.mg x=some (.ref Ch))
  (hN:X.N.Nodup) (hi:X.N[i]? =some n) (hn:X.env.scope.names.lookup n=some .local) (hdb:(x ==("__debug__":Str))=false)
  (yes:b=true->∀ s2,Inv (X.bP (.ref e)) Y (U.set i (some (.ref e))) H s2->wpAny (model X.prog X.w) (X.A.mark (some (.ref e))) (execs (b0::bP) X.env)
   (SP (X.bP (.ref e)) Y { nx:=λσ' H'=>D.nx (σ'.set i none) H',rt:=D.rt,bk:=λσ' H'=>D.bk (σ'.set i none) H',ct:=λσ' H'=>D.ct (σ'.set i none) H' }) (λ_ _=>False) s2)
  (no:b=false->wpAny (model X.prog X.w) X.A (handleBy (.ref e) X.env rest) (SP X Y D) X.xe s):
  wpAny (model X.prog X.w) X.A (handleBy (.ref e) X.env (.ExceptHandler (some (.Name x np)) (some n) (b0::bP) hpos::rest)) (SP X Y D) X.xe s:=by
 have I':=I.bP (.ref e);refine wpAny_handleBy_cons (codeAny_handlers_test (bN (X:=X.bP (.ref e)) I' hg hm ?_ hdb)) (by intro q;cases q);obtain ⟨⟨vs,ho,hsz,h1⟩,z⟩:=id (I.hok e _ he);have L0:Looks (model X.prog X.w) s.heap (typeOf (.ref e)) (.ref C):=(Looks.ld ho).andThen .now;have L1:Looks (model X.prog X.w) s.heap (typeOf (.ref Ch)) (.type "type"):=looks_typeIn I.b6 ch.mt;have L2':Looks (model X.prog X.w) s.heap (isInstance (.ref Ch) (.type "tuple")) false:=L1.andThen (Looks.of_pure tc_notTuple);have L3:Looks (model X.prog X.w) s.heap (isType (.ref Ch)) true:=by
  obtain ⟨cd,rs,hcl,_⟩:=ch.mro;unfold W.clsIn at hcl
  split at hcl
  ·rename_i ho';intro A' Q' E' s' k q;unfold isType loadHead;exact ad (wpAny_loadPart (k _ _ (I.b6 _ _ ho')) (am q))
  ·cases hcl
 have L4:Looks (model X.prog X.w) s.heap (isSubtype (.ref Ch) (.type "BaseException")) true:=looks_mroIn I.b6 (ch.sub (by decide+kernel));have L5:Looks (model X.prog X.w) s.heap (isSubtype (.ref C) (.ref Ch)) b:=looks_mroIn I.b6 hsub;have L6:Looks (model X.prog X.w) s.heap (isExcClass (.ref Ch)) true:=by
  unfold isExcClass;exact L3.andThen L4
 unfold excMatches;refine ad (L2'.here ?_);rw[if_neg (by decide)];refine ad (am ?_);simp only[forIn_cons,forIn_nil];refine ad (ad (ad (L6.here ?_)));rw[if_neg (by decide)];refine am ?_;refine am ?_;refine ad (L0.here ?_);refine ad (ad (ad (L5.here ?_)));cases b with
 |false=>
  rw[if_neg (by decide)];refine am ?_;refine am ?_;refine am ?_;exact no rfl
 |true=>
  rw[if_pos rfl];refine am ?_;refine am ?_;refine am ?_;refine codeAny_handlers_suite_as (vC st λh2 qd oth _ th2 _=>?_);have I2:Inv X Y U H { s with heap:=h2 }:=by
   refine Inv.turned (it:=T) (h':=h2) (t':=s.toks) I (λb o hb hq=>(oth b hb).trans hq) hH ?_ (.inr hT) (λy cc hc z=>?_) hp
   ·intro z;obtain ⟨m,⟨o,es,ep,ho',hd,_⟩,_⟩:=I.loc;obtain ⟨_,_,oT,ts,_,_,_,_,hT2,hd2,_⟩:=st;rw[z,ho'] at hT2;cases hT2;rw[hd] at hd2;cases hd2
   ·obtain ⟨v,o,ho',hd⟩:=I.cell y cc hc;obtain ⟨_,_,oT,ts,_,_,_,_,hT2,hd2,_⟩:=st;rw[<-z,ho'] at hT2;cases hT2;rw[hd] at hd2;cases hd2
  refine bw (X:=X.bP (.ref e)) (I2.bP (.ref e)) hN hi (.inl hn) (v:=.ref e) rfl (λs3 I3=>?_) (.inr hn);refine wpAny_mono (yes rfl s3 I3) (λf s4 h4=>?_) λ_ _ z=>z.elim
  cases f with
  |next=>
   obtain ⟨σ',H',J,q⟩:=h4;exact fB (J.kr I.ok) hN hi hn λs5 J5=>⟨_,H',J5,q⟩
  |brk=>
   obtain ⟨σ',H',J,q⟩:=h4;exact fB (J.kr I.ok) hN hi hn λs5 J5=>⟨_,H',J5,q⟩
  |cont=>
   obtain ⟨σ',H',J,q⟩:=h4;exact fB (J.kr I.ok) hN hi hn λs5 J5=>⟨_,H',J5,q⟩
  |ret u=>
   obtain ⟨v,σ',H',J,r,q⟩:=h4;exact fB (J.kr I.ok) hN hi hn λs5 J5=>⟨v,_,H',J5,r,q⟩
end
end L2
namespace L2
open PySem PySem.Spec PyProof.Rows
def Hg:bootBuiltins "isinstance"=some (.builtin "isinstance"):=by decide+kernel
section
variable {X:Cx}
abbrev Jh (K:W.Frag):V->V->Hp->VK->Prop:=λx y H Q=>∃ p xs i v,x=.ref p/\y=.int i/\aR K H p xs/\0<=i/\xs[i.toNat]? =some v/\Q v H
def Am:FF X (Jh X.K):=by
 intro Y s U H o i ov iv Q I ro ri h;obtain ⟨p,xs,k,z,rfl,rfl,hq,h0,he,q⟩:=h;cases ro;obtain ⟨t,rfl⟩:=ri;obtain ⟨its,r,pl,hz⟩:=I.list hq;obtain ⟨w,ew,rw'⟩:=r.get he;have hl:k.toNat<xs.length:=(tz.mp he).1;have hn:=gk;exact wpAny_getItem_list pl.isList h0 nofun (by simpa using ew) ⟨z,H,I,rw',q⟩
def kD {xs:List V}{us:List Value}(r:Vals xs us){j:Nat}(h:j<us.toArray.size):∃ x,xs[j]? =some x/\RelV x (us.toArray[j]):=by
 have hl:=r.length;have hj:j<us.length:=by simpa using h
 have e:xs[j]? =some xs[j]:=li nofun;obtain ⟨u,h1,h2⟩:=r.get e;refine ⟨_,e,?_⟩;rw[li hj] at h1;cases h1;simpa using h2
end
section
variable {U:St}{H:Hp}{Q:VK}{D:Ends}{K:W.Frag}
abbrev sD (x:V)(H:Hp)(R:Bool->Hp->Prop):Prop:=∃ k,x=.bl k/\R k H
def kX {α:Type}{xs:List α}{i:Int}(h0:0<=i)(h1:i<xs.length):∃ v,kG xs i=some v/\v ∈ xs:=by
 obtain ⟨n,rfl⟩:=sw h0;have hn:n<xs.length:=by omega
 exact ⟨xs[n],n9 (li hn),getElem_mem hn⟩
end
section
variable {K:W.Frag}{g:TG}{tb:TS}{D:Ends}{U:St}{H:Hp}{tl:TE}{ta:TA}
end
def fits {n:Nat}(h:n<=1000):n<=bn:=Nat.le_of_lt (dh h)
section
variable {X:Cx}{H:Hp}{Q:VK}
end
section
variable {K:W.Frag}
end
section
variable {H H':Hp}{h c p:Addr}{m n:Int}{o:HO}
end
def Jt (ns:List Int)(h:ns.length<=63):gE (ns.map V.int) none (some 63)=ns.map V.int:=by
 have e1:HT.qv (ns.map V.int).length 0 none=0:=rfl;have e2:HT.qv (ns.map V.int).length (ns.map V.int).length (some 63)=(ns.map V.int).length:=by
  show (if (63:Int)<0 then ((63:Int)+((ns.map V.int).length:Int)).toNat else min (63:Int).toNat (ns.map V.int).length)=(ns.map V.int).length;rw[if_neg (by decide),ce];show min 63 ns.length=ns.length
  omega
 unfold gE;rw[e1,e2,drop_zero,Nat.sub_zero,take_length]
variable {ns:List Int}
def uD {i:Nat}{x:V}(h:(ns.map V.int)[i]? =some x):∃ z,x=V.int z:=by
 rw[io] at h;cases e:ns[i]? with
 |none=>rw[e] at h;cases h
 |some z=>rw[e] at h;exact ⟨z,(Option.some.inj h).symm⟩
def yN {i:Int}(h0:0<=i)(h1:i<ns.length):∃ z,kG (ns.map V.int) i=some (.int z):=by
 obtain ⟨v,a,m⟩:=kX (xs:=ns.map V.int) h0 (by rw[ce];exact h1);obtain ⟨z,_,rfl⟩:=List.mem_map.mp m;exact ⟨z,a⟩
section
variable {H:Hp}{Q:VK}
end
section
variable {X:Cx}
end
variable {A:Around}{E:NC}{s:Shared}
def EB {α:Type}{t:Sem α}{Q Q':α->Shared->Prop}{M:Model}(h:wpAny M A t Q (λ_ _=>False) s) (hQ:∀ a s,Q a s->Q' a s):wpAny M A t Q' E s:=wpAny_mono h hQ λ_ _ x=>x.elim
abbrev fX (X:Cx)(scope:Scope)(cl:List (Str×Addr))(N:List Str)(s:Shared)(H:Hp)(fp:List Addr):Cx:=
 { X with N:=N,s₀:=s,H₀:=H,env:=compEnvC scope cl s.heap.objs.size X.env,outer:=X.stack,stack:=X.stack,ex:=fp,fn:=λ_=>false,pn:=[],xe:=λ_ _=>False }
structure bE (X:Cx) (scope:Scope) (cl:List (Str×Addr)) (xs:List Str) (fr:List Str) (sel:List Nat):Prop where
 clos:closureFor scope X.env=pure cl
 sub:∀ y c,cl.lookup y=some c->X.env.cells.lookup y=some c
 has:∀ y,((relabel scope X.env).names.lookup y=some .cell\/(relabel scope X.env).names.lookup y=some .free)->∃ c,cl.lookup y=some c
 kind:scope.kind=.function
 nocell:∀ y ∈ scope.names,y.2≠.cell
 names:∀ y ∈ scope.names,y.2=.local->scope.names.lookup y.1=some .local
 own:∀ x ∈ xs,scope.names.lookup x=some .local
 len:sel.length=fr.length
 out:∀ (j:Nat) (y:Str),fr[j]? =some y->∃ i,sel[j]? =some i/\X.N[i]? =some y/\X.env.scope.names.lookup y=some .cell/\(relabel scope X.env).names.lookup y=some .cell
 nd:(xs++fr).Nodup
abbrev gH (U:St)(sel:List Nat):St:=sel.map λi=>U.getD i none
abbrev LC (te:TE)(J:It)(σ₀:St)(H1:Hp)(Q:VK):Prop:=∀ D,H1 D=none->∃ W:Nat->Nat->St->Hp->Prop,(∃ m,W 0 m σ₀ (upd H1 D (.lst [])))/\∀ i m σ' H',W i m σ' H'->
 (J.stop i H'/\Q (.ref D) H')\/(J.go i H'/\∃ N:St->Hp->Prop,(∀ σ2 H2,N σ2 H2->∃ m',m'<m/\W (i+1) m' σ2 H2)/\
  ∀ x H'',J.yld i H' x H''->te (σ'.set 0 (some x)) H'' λv H3=>∃ zs,H3 D=some (.lst zs)/\zs.length<bn/\N (σ'.set 0 (some x)) (upd H3 D (.lst (zs++[v]))))
abbrev gate (env:Env):List Expr->Sem Bool
 | []=>pure true
 |c::_=>isTrue c env (eval c env)
variable {ifs:List Expr}{scope:Scope}{pos:Pos}
def vz {M:Model}{elt target iter:Expr}{it acc:Value}{env:Env}{Q:PySem.Fin->Shared->Prop}(hi:ifs.length<=1)
  (h:wpAny M A (pyNext it) (λr s1=>match r with
   |none=>Q (.done .next) s1
   |some v=>wpAny M A (letOwnedTupleGo target it v) (λ_ s2=>wpAny M A (assign target env v) (λ_ s3=>wpAny M A (gate env ifs) (λok s4=>
    (ok=true->wpAny M A (eval elt env) (λx s5=>wpAny M A (call (.builtin "list.append") [acc,x]) (λ_ s6=>wpAny M A (again (.compLoop (.ListComp elt [⟨target,iter,ifs,0⟩] scope pos) 0 it acc env)) Q E s6) E s5) E s4)/\
    (ok=false->wpAny M A (again (.compLoop (.ListComp elt [⟨target,iter,ifs,0⟩] scope pos) 0 it acc env)) Q E s4)) E s3) E s2) E s1) E s):
  wpAny M A (compTurn (.ListComp elt [⟨target,iter,ifs,0⟩] scope pos) 0 it acc env) Q E s:=by
 have key:∀ {g:Sem Bool}{K:Sem PySem.Fin}{s:Shared},wpAny M A g (λok s4=>
    (ok=true->wpAny M A (eval elt env) (λx s5=>wpAny M A (call (.builtin "list.append") [acc,x]) (λ_ s6=>wpAny M A K Q E s6) E s5) E s4)/\
    (ok=false->wpAny M A K Q E s4)) E s->wpAny M A (g >>= λok=>if ok=true then (eval elt env >>= λx=>call (.builtin "list.append") [acc,x] >>= λ_=>pure ()) >>= λ_=>K else K) Q E s:=λ{g K s} h=>by
  refine ad (wpAny_mono h (λok s4 h4=>?_) λ_ _ e=>e);cases ok with
  |false=>exact h4.2 rfl
  |true=>exact ad (ad (wpAny_mono (h4.1 rfl) (λx s5 h5=>ad (wpAny_mono h5 (λ_ s6 h6=>am h6) λ_ _ e=>e)) λ_ _ e=>e))
 match ifs,hi with
 | [],_=>
  rw[compTurn_list1];refine ad (wpAny_standAt (ad (wpAny_mono h (λr s1 h1=>?_) λ_ _ e=>e)));cases r with
  |none=>exact am h1
  |some v=>
   refine ad (wpAny_mono h1 (λ_ s2 h2=>ad (wpAny_mono h2 (λ_ s3 h3=>?_) λ_ _ e=>e)) λ_ _ e=>e);exact key (g:=pure true) h3
 | [c],_=>
  unfold compTurn;simp only[List.getElem?_cons_zero,List.getElem?_cons_succ,List.getElem?_nil];dsimp only[forIn,List.forIn',List.forIn'.loop,forIn'];rw[if_neg (by decide),if_neg (by decide)];refine ad (wpAny_standAt (ad (wpAny_mono h (λr s1 h1=>?_) λ_ _ e=>e)));cases r with
  |none=>exact am h1
  |some v=>
   refine ad (wpAny_mono h1 (λ_ s2 h2=>ad (wpAny_mono h2 (λ_ s3 h3=>?_) λ_ _ e=>e)) λ_ _ e=>e);refine key ?_;rw[if_pos rfl];refine ad (ad (wpAny_mono h3 (λok s4 h4=>am ?_) λ_ _ e=>e));exact am h4
abbrev LCg (tg:TG)(tc:TT)(te:TE)(J:It)(σ₀:St)(H1:Hp)(Q:VK):Prop:=∀ D,H1 D=none->∃ W:Nat->Nat->St->Hp->Prop,(∃ m,W 0 m σ₀ (upd H1 D (.lst [])))/\∀ i m σ' H',W i m σ' H'->
 (J.stop i H'/\Q (.ref D) H')\/(J.go i H'/\∃ N:St->Hp->Prop,(∀ σ2 H2,N σ2 H2->∃ m',m'<m/\W (i+1) m' σ2 H2)/\
  ∀ x H'',J.yld i H' x H''->tg x σ' H'' λσ2 H2=>tc σ2 H2 λb H3=>(b=true->te σ2 H3 λv H4=>∃ zs,H4 D=some (.lst zs)/\zs.length<bn/\N σ2 (upd H4 D (.lst (zs++[v]))))/\(b=false->N σ2 H3))
abbrev yes:TT:=λ_ H Q=>Q true H
variable {te:TE}
def LC.g {J:It}{σ₀:St}{H1:Hp}{Q:VK}(h:LC te J σ₀ H1 Q):LCg (gT 0) yes te J σ₀ H1 Q:=λD hD=>by
 obtain ⟨W,w0,turn⟩:=h D hD;refine ⟨W,w0,λi m σ' H' w=>?_⟩;rcases turn i m σ' H' w with z|⟨go,N,hN,step⟩
 ·exact .inl z
 ·exact .inr ⟨go,N,hN,λx H'' y=>⟨λ_=>step x H'' y,λe=>nomatch e⟩⟩
abbrev KN (X:Cx)(ifs:List Expr)(tc:TT):Prop:=ifs.length<=1/\∀ (Y:ND) (s:Shared) (U:St) (H:Hp) (Q:Bool->Hp->Prop),Inv X Y U H s->tc U H Q->wpAny (model X.prog X.w) X.A (gate X.env ifs) (TP X Y U Q) X.xe s
variable {X:Cx}
def kf:KN X [] yes:=⟨Nat.zero_le _,λY s U H Q I q=>am ⟨H,I,q⟩⟩
def D6 {c:Expr}{tc:TT}(h:PT X c tc):KN X [c] tc:=⟨re _,h⟩
abbrev sx (xs:List Str):St:=xs.map λ_=>none
abbrev ME (wi:TI)(te:TE)(sel:List Nat):TE:=λU H Q=>wi U H λJ H1=>LC te J (none::gH U sel) H1 Q
abbrev Jv (wi:TI)(tg:TG)(tc:TT)(te:TE)(xs:List Str)(sel:List Nat):TE:=λU H Q=>wi U H λJ H1=>LCg tg tc te J (sx xs++gH U sel) H1 Q
variable {cl:List (Str×Addr)}{xs fr:List Str}{sel:List Nat}{fp:List Addr}
section
variable {X:Cx}
def Un.sameBut {fs ex:List Addr}{H H':Hp}{h h1 h2:Heap}{C:Addr}(u:Un fs ex H H' h h1)(hs:Heap.SameBut C h1 h2)(hC:h.objs.size<=C):Un fs ex H H' h h2:=by
 have ne:∀ b o,h.get? b=some o->b≠C:=λb o e=>pi (ol (ut e) hC)
 refine ⟨λb o e n hb hx=>(hs.2 b (ne b o e)).trans (u.keep b o e n hb hx),λb o e n hb hx=>?_,u.free,λb o e hx=>?_,u.tups,u.frzs,u.tbls⟩
 ·obtain ⟨sl,q⟩:=u.slot b o e n hb hx;exact ⟨sl,(hs.2 b (ne b o e)).trans q⟩
 ·obtain ⟨o',q⟩:=u.there b o e hx;exact ⟨o',(hs.2 b (ne b o e)).trans q⟩
def qR {Y:ND}{U:St}{H:Hp}{h':Heap}{tk:Nat}{m':NF}
  (S:bE X scope cl xs fr sel) (I:Inv X Y U H s) (f2:∀ b ∈ fp,i4 X Y H b) (fo:∀ b ∈ fp,b<s.heap.objs.size) (hns:h'.Ns s.heap.objs.size m') (keep:∀ b o,s.heap.get? b=some o->h'.get? b=some o):
  Inv (fX X scope cl (xs++fr) s H fp) (X.pn++Y) (sx xs++gH U sel) H { s with heap:=h',toks:=tk }:=by
 have stk:∀ b,b≠X.env.locals->b ∉ X.fs->b ∉ pD X.stack:=λb h1 h2 hb=>(nb.mp (I.iY b hb)).elim h1 h2
 refine ⟨⟨I.ok.mod,S.kind,I.ok.glob,I.ok.blt,re _,λy z c h1 h2=>I.ok.inj y z c (S.sub y c h1) (S.sub z c h2),λy hy=>S.has y hy,(λy c h=>nomatch h),I.ok.hd,I.ok.frames,.inl rfl,λb hb=>⟨pi (fo b hb),λy c h=>(f2 b hb).2.2.2.2.1 y c (S.sub y c h)⟩,I.bs,
  Nat.le_trans I.ok.bsz I.sz,λb o e hb=>?_,λb hb=>stk b (f2 b hb).2.1 (f2 b hb).2.2.1,I.stack,I.pY⟩,
  rfl,I.bare,Un.kept keep,⟨m',hns,λi y v e1 e2 e3=>?_⟩,λy c h=>?_,I.hok.fresh (re _),λy c h=>I.freeC y c (S.sub y c h),λp hp=>?_,I.hok.kept keep,?_⟩
 ·rcases (f2 b hb).2.2.2.1 with z|z
  ·exact I.ok.noex b o e z
  ·exact absurd (ol (ol (ut e) I.ok.bsz) z) (Nat.lt_irrefl _)
 ·have hln:(sx xs).length=xs.length:=ce ..
  by_cases hlt:i<xs.length
  ·rw[List.getElem?_append_left (by rw[hln];exact hlt)] at e2;unfold sx at e2;rw[io,li hlt] at e2;cases e2
  ·obtain ⟨j,rfl⟩:∃ j,i=xs.length+j:=⟨i-xs.length,by omega⟩;have e1':fr[j]? =some y:=by
    have e1:(xs++fr)[xs.length+j]? =some y:=e1;rw[List.getElem?_append_right nofun,show xs.length+j-xs.length=j by omega] at e1;exact e1
   obtain ⟨i,hi,hN,k1,k2⟩:=S.out j y e1';have e2':(gH U sel)[j]? =some (some v):=by
    rw[List.getElem?_append_right (by rw[hln];omega),hln,show xs.length+j-xs.length=j by omega] at e2;exact e2
   have e4:U[i]? =some (some v):=by
    unfold gH at e2';rw[io,hi] at e2';have e5:U.getD i none=some v:=Option.some.inj e2';rw[List.getD_eq_getElem?_getD] at e5;cases e6:U[i]? with
    |none=>rw[e6] at e5;cases e5
    |some z=>rw[e6] at e5;exact congrArg some e5
   obtain ⟨m,hn,hl⟩:=I.loc;obtain ⟨u,r,l⟩:=hl i y v hN e4 (.inr (.inl k1));refine ⟨u,r,.inr ⟨.inl k2,?_⟩⟩;rcases l with ⟨hk,_⟩|⟨_,c,hc,o,ho,hd⟩
   ·have hk':X.env.scope.names.lookup y=some .local:=hk;rw[k1] at hk';cases hk'
   ·obtain ⟨c',hc'⟩:=S.has y (.inl k2);have:=(S.sub y c' hc').symm.trans hc;cases this;exact ⟨c,hc',o,keep c o ho,hd⟩
 ·obtain ⟨v,o,ho,hd⟩:=I.cell y c (S.sub y c h);exact ⟨v,o,keep c o ho,hd⟩
 ·obtain ⟨e,n,ne,nf,d⟩:=I.pin p (by simpa [fX] using hp);exact ⟨keep p.1 p.2 e,n,pi (ut e),stk p.1 ne nf,d⟩
 ·show (sx xs++gH U sel).length=(xs++fr).length;unfold gH sx;simp[S.len]
def m8 {elt iter tgt:Expr}{wi:TI}{tg:TG}{tc:TT}(hc:X.calm=true)(S:bE X scope cl xs fr sel)(hi:PI X tgt iter wi)
  (hg:∀ (s:Shared) (H:Hp) (fp:List Addr),PG (fX X scope cl (xs++fr) s H fp) tgt tg) (ht:∀ (s:Shared) (H:Hp) (fp:List Addr),KN (fX X scope cl (xs++fr) s H fp) ifs tc)
  (he:∀ (s:Shared) (H:Hp) (fp:List Addr),PE (fX X scope cl (xs++fr) s H fp) elt te) (hs:∀ x,foldedSetIterable iter X.env x=pure x):PE X (.ListComp elt [⟨tgt,iter,ifs,0⟩] scope pos) (Jv wi tg tc te xs sel):=by
 intro Y s U H Q I h;rw[eval_ListComp];refine wpAny_comprehension_free (use:=none) rfl hs S.clos S.kind S.names ?_;refine aC (hi Y s U H _ I h) λv s1 h1=>aC h1 λitv s2 h2=>?_
 obtain ⟨it,fp,tn,J,H2,e,I2,T,qd,f2,h2⟩:=h2;subst e;refine wpAny_newObj_type ?_;have hD:H2 s2.heap.objs.size=none:=I2.hok.fresh (re _);have I3:Inv X Y U (upd H2 s2.heap.objs.size (.lst [])) { s2 with heap:=s2.heap.push { cls:=.type "list",dict:=none,data:=.seq ([]:List Value).toArray } }:=
  I2.laid (t':=s2.toks) (λb u e=>ul _ e) (re _) ⟨Nat.zero_le _,[],0,.nil,v4 _ rfl⟩
 have fo2:∀ b ∈ fp,b<s2.heap.objs.size:=λb hb=>by
  obtain ⟨o,ho,_⟩:=T.obj _ _ qd b hb;exact ut ho
 have f3:∀ b ∈ fp,i4 X Y (upd H2 s2.heap.objs.size (.lst [])) b:=λb hb=>⟨by rw[ah (pi (fo2 b hb))];exact (f2 b hb).1,(f2 b hb).2⟩
 have st3:tn 0 (s2.heap.push { cls:=.type "list",dict:=none,data:=.seq ([]:List Value).toArray }):=T.keep _ _ _ qd λb hb o e=>ul _ e
 have fo3:∀ b ∈ fp,b<(s2.heap.push { cls:=.type "list",dict:=none,data:=.seq ([]:List Value).toArray }).objs.size:=λb hb=>by
  rw[Heap.size_push];exact Nat.lt_succ_of_lt (fo2 b hb)
 obtain ⟨W,⟨m0,w0⟩,turn⟩:=h2 _ hD;generalize s2.heap.objs.size=D at*;generalize hs3:({ s2 with heap:=s2.heap.push { cls:=.type "list",dict:=none,data:=.seq ([]:List Value).toArray } }:Shared)=s3 at*;have st3':tn 0 s3.heap:=by rw[<-hs3];exact st3
 have fo3':∀ b ∈ fp,b<s3.heap.objs.size:=by rw[<-hs3];exact fo3
 refine wpAny_newFunctionEnv S.nocell (by intro y hy;simp at hy) (λh' hns hsb=>?_) S.kind;have keep:∀ b o,s3.heap.get? b=some o->h'.get? b=some o:=λb o e=>(hsb.2 b (pi (ut e))).trans (ul _ e)
 have I4:=qR (tk:=s3.toks+([]:List (Str×Value)).length) S I3 f3 fo3' hns keep;have st4:tn 0 h':=T.keep _ _ _ st3' λb hb o e=>keep b o e
 have stat:∀ {H':Hp},(∀ b ∈ fp,H' b=none)->∀ b ∈ fp,i4 (fX X scope cl (xs++fr) s3 (upd H2 D (.lst [])) fp) (X.pn++Y) H' b:=λ{H'} hn b hb=>
  ⟨hn b hb,pi (fo3' b hb),λz=>(nb.mp (I3.iY b z)).elim (f3 b hb).2.1 (f3 b hb).2.2.1,.inl hb,λy c hy=>(f3 b hb).2.2.2.2.1 y c (S.sub y c hy),λp hp=>(f3 b hb).2.2.2.2.2 p (by simpa [fX] using hp)⟩
 have loop:codeAny (model X.prog X.w) X.A (.compLoop (.ListComp elt [⟨tgt,iter,ifs,0⟩] scope pos) 0 (.ref it) (.ref D) (compEnvC scope cl s3.heap.objs.size X.env))
   (compPost (model X.prog X.w) X.A X.xe none (EP X Y U Q) (.ref D) s3.heap.objs.size) { s3 with heap:=h',toks:=s3.toks+([]:List (Str×Value)).length }:=by
  refine codeAny_loop rfl (λn s'=>∃ i σ' H',Inv (fX X scope cl (xs++fr) s3 (upd H2 D (.lst [])) fp) (X.pn++Y) σ' H' s'/\tn i s'.heap/\(∀ b ∈ fp,H' b=none)/\W i n σ' H') (λn s5 hI=>?_) m0 ⟨0,_,_,I4,st4,λb hb=>(f3 b hb).1,w0⟩;show wpAny _ _ ((compTurn (.ListComp elt [⟨tgt,iter,ifs,0⟩] scope pos) 0 (.ref it) (.ref D) (compEnvC scope cl s3.heap.objs.size X.env)).onRaise (λx=>do noteFrame x (compEnvC scope cl s3.heap.objs.size X.env);theTreesLotGoes x)) _ _ s5;refine wpAny_noted ?_;refine vz (ht s3 (upd H2 D (.lst [])) fp).1 ?_;obtain ⟨i,σ5,H5,I5,st5,fr5,w5⟩:=hI;rcases turn i n σ5 H5 w5 with ⟨stop,q⟩|⟨go,Nn,hN,step⟩
  ·refine aC (T.done (fX X scope cl (xs++fr) s3 (upd H2 D (.lst [])) fp) rfl rfl rfl hc i _ s5 σ5 H5 _ I5 (stat fr5) st5 stop) λr s6 ⟨hr,I6⟩=>?_
   subst hr;obtain ⟨m,hn,_⟩:=I6.loc;refine ⟨m,hn,λh'' hs''=>⟨.ref D,H5,I3.zS (ch:=fp) I6.os (I6.base.sameBut hs'' (re _)) (λb ob e=>?_) I6.bare λb hb=>⟨(f3 b hb).2.2.2.1,(f3 b hb).2.1,(f3 b hb).2.2.2.2.1,(f3 b hb).2.2.2.2.2⟩,rfl,q⟩⟩;refine (I6.hok b ob e).j3 (λc w' hc' q'=>(hs''.2 c ?_).trans q') (λ_ q'=>q') λ_ _ q'=>q'
   have fC:H5 s3.heap.objs.size=none:=I6.free;intro z;rcases hc' with z2|z2
   ·rw[z2] at z;rw[z,fC] at e;cases e
   ·rw[z,fC] at z2;cases z2
  ·have fin:∀ {σ8:St}{H10:Hp}{s10:Shared},Inv (fX X scope cl (xs++fr) s3 (upd H2 D (.lst [])) fp) (X.pn++Y) σ8 H10 s10/\tn (i+1) s10.heap/\(∀ b ∈ fp,H10 b=none)->Nn σ8 H10->∃ m',m'<n/\∃ i σ' H',Inv (fX X scope cl (xs++fr) s3 (upd H2 D (.lst [])) fp) (X.pn++Y) σ' H' s10/\tn i s10.heap/\(∀ b ∈ fp,H' b=none)/\W i m' σ' H':=λ⟨I,t,f⟩ nn=>by
    obtain ⟨m',hm,w10⟩:=hN _ _ nn;exact ⟨m',hm,i+1,_,_,I,t,f,w10⟩
   refine aC (T.item (fX X scope cl (xs++fr) s3 (upd H2 D (.lst [])) fp) rfl rfl rfl hc i _ s5 σ5 H5 _ I5 (stat fr5) st5 go) λr s6 ⟨u,hr,h6⟩=>?_
   subst hr;refine aC h6 λ_ s7 ⟨xv,H7,I7,r7,y7,st7,fr7⟩=>?_
   have I7':=I7.pinned (stat fr7) (T.obj _ _ st7);refine EB (hg s3 _ fp _ s7 σ5 H7 xv u _ I7' r7 (step xv _ y7)) λ_ s8 ⟨σ8,H8,I8,q8⟩=>?_
   refine EB ((ht s3 _ fp).2 _ s8 σ8 H8 _ I8 q8) λok s9 ⟨H9,I9,q9⟩=>?_
   have back:∀ {H10:Hp}{s10:Shared},Inv (fX X scope cl (xs++fr) s3 (upd H2 D (.lst [])) fp) _ σ8 H10 s10->Inv (fX X scope cl (xs++fr) s3 (upd H2 D (.lst [])) fp) (X.pn++Y) σ8 H10 s10/\tn (i+1) s10.heap/\(∀ b ∈ fp,H10 b=none):=λ{H10 s10} I10=>⟨I10.fw,T.keep _ _ _ st7 λb hb o e=>(I10.pin (b,o) (im _ (im _ (bT hb e)))).1,λb hb=>by
    obtain ⟨o,e,d⟩:=T.obj _ _ st7 b hb;exact (I10.pin (b,o) (im _ (im _ (bT hb e)))).2.1⟩
   refine ⟨λek=>?_,λek=>am ⟨rfl,fin (back I9) (q9.2 ek)⟩⟩;refine EB (he s3 _ fp _ s9 _ _ _ I9 (q9.1 ek)) λuv s10 ⟨vv,H10,I10,r10,zs,hz,hzl,n10⟩=>?_
   refine EB (iZ (X:=fX X scope cl (xs++fr) s3 (upd H2 D (.lst [])) fp) _ s10 _ H10 (.ref D) [vv] (.ref D) [uv] (λ_ H'=>H'=upd H10 D (.lst (zs++[vv]))) I10 rfl (.cons r10 .nil) ⟨D,zs,vv,rfl,rfl,hz,hzl,rfl⟩) λ_ s11 ⟨_,H11,I11,_,e11⟩=>?_
   subst e11;exact am ⟨rfl,fin (back I11) n10⟩
 exact codeAny_compStart_list loop (T.self _ 0 _ _ _ st4 loop)
def tf {x:Str}{px:Pos}{H:Hp}(S:bE X scope cl [x] fr sel):PG (fX X scope cl ([x]++fr) s H fp) (.Name x px) (gT 0):=gQ S.nd rfl (.inl (lookup_relabel_local (S.own x (mo ..)))) (.inr (lookup_relabel_local (S.own x (mo ..))))
abbrev MT (wi:TI):TI:=λU H R=>∃ R0:It->Hp->Prop,wi U H R0/\∀ J H,R0 J H->R J H
def PI.up {tg iter:Expr}{wi:TI}(h:PI X tg iter wi):PI X tg iter (MT wi):=λY s U H R I ⟨R0,q,m⟩=>
 aC (h Y s U H R0 I q) λv s1 h1=>wpAny_mono h1 (λitv s2 ⟨it,fp,tn,J,H',e,I,T,t0,f,r⟩=>⟨it,fp,tn,J,H',e,I,T,t0,f,m _ _ r⟩) λ_ _ e=>e
def AJ {elt iter:Expr}{x:Str}{px:Pos}{wi:TI}(hc:X.calm=true)(S:bE X scope cl [x] fr sel)(hi:PI X (.Name x px) iter wi)
  (he:∀ (s:Shared) (H:Hp) (fp:List Addr),PE (fX X scope cl (x::fr) s H fp) elt te) (hs:∀ x,foldedSetIterable iter X.env x=pure x):PE X (.ListComp elt [⟨.Name x px,iter,[],0⟩] scope pos) (ME wi te sel):=λY s U H Q I h=>
 m8 (tg:=gT 0) hc S hi.up (λs H fp=>tf S) (λ_ _ _=>kf) he hs Y s U H Q I ⟨_,h,λ_ _ q=>q.g⟩
end
section
variable {U:St}{H:Hp}{Q:VK}{te tl:TE}{ta:TA}{sel:List Nat}{σ₀ rest:St}{K:W.Frag}
end
def dG {env:Env}:∀ {names:List (Str×NameKind)}{y:Str}{k':NameKind},(names.map λ(n,k)=>if (k ==NameKind.free&&env.scope.kind ==.function&&env.kindOf n ==some .cell) then (n,NameKind.cell) else (n,k)).lookup y=some k'->∃ k,(y,k) ∈ names/\(k'=k\/(k=.free/\k'=.cell))
 | [],_,_,h=>by simp at h
 |(n,k)::r,y,k',h=>by
  rw[map_cons,lookup_cons] at h
  by_cases hc:(k ==NameKind.free&&env.scope.kind ==.function&&env.kindOf n ==some .cell)=true
  ·simp only[hc,if_true] at h
   by_cases e:y=n
   ·subst e;simp at h;simp at hc;exact ⟨k,mo,.inr ⟨hc.1.1,h.symm⟩⟩
   ·rw[show (y ==n)=false from beq_eq_false_iff_ne.mpr e] at h;obtain ⟨k2,m,q⟩:=dG (env:=env) h;exact ⟨k2,dL _ m,q⟩
  ·rw[Bool.not_eq_true] at hc;simp only[hc,Bool.false_eq_true,if_false] at h
   by_cases e:y=n
   ·subst e;simp at h;exact ⟨k,mo,.inl h.symm⟩
   ·simp only[show (y ==n)=false from beq_eq_false_iff_ne.mpr e] at h;obtain ⟨k2,m,q⟩:=dG (env:=env) h;exact ⟨k2,dL _ m,q⟩
section
variable {K:W.Frag}
end
section
variable {K:W.Frag}{H:Hp}
end
section
variable {U:St}{H:Hp}{Q:VK}
end
abbrev notStar:Expr->Bool
 | .Starred ..=>false
 |_=>true
variable {es:List Expr}
def af {e:Expr}{env:Env}(h:notStar e=true):bm (e::es) env=(false,eval e env)::bm es env:=by
 cases e<;>first|rfl|cases h
def k4 {e:Expr}{t:TA}(ha:PE X e te)(hr:PA X es t)(h:notStar e=true:=by rfl):PA X (e::es) (EF te t):=Dv ha hr (af h)
section
variable {X:Cx}{Y:ND}{U:St}{H:Hp}{s:Shared}{h':Heap}
def Inv.qo {t':Nat}{ch:List Addr}{a:Addr}{o:HO}(I:Inv X Y U H s)(k:∀ b u,b ∉ ch->s.heap.get? b=some u->h'.get? b=some u) (hf:∀ b ∈ ch,i4 X Y H b)
  (hp:s.heap.objs.size<=a) (new:aL X.prog X.w (upd H a o) h' a o):Inv X Y U (upd H a o) { s with heap:=h',toks:=t' }:=by
 have hn:H a=none:=I.hok.fresh hp;have nch:∀ b u,H b=some u->b ∉ ch:=λb u e z=>by rw[(hf b z).1] at e;cases e
 refine I.step (g':=s.gens) (d':=s.drawn) (ch:=ch) (λb hb=>?_) (λb o _ _ hc e _=>k b o hc e) (λb o _ _ hc e _=>⟨o.slots,k b o hc e⟩) (λb o hc e n=>?_)
  (λb o hc e=>⟨o,k b o hc e⟩) (λb xs e=>?_) (λb ob u e=>?_) (λb ps e=>?_) (λm hm=>?_) (λb u e=>?_) I.bare
 ·obtain ⟨_,f1,_,f3,f4,f5⟩:=hf b hb;exact ⟨f3,f1,f4,f5⟩
 ·rw[ah (pi (ol (ut e) hp))];exact n
 ·rw[ah (aQ e hn)];exact e
 ·rw[ah (aQ e hn)];exact e
 ·exact ⟨#[],by rw[ah (aQ e hn),e];simp⟩
 ·obtain ⟨o,es,ep,ho,r⟩:=hm;exact ⟨o,es,ep,k _ o (λz=>(hf _ z).2.1 rfl) ho,r⟩
 ·by_cases hb:b=a
  ·subst hb;rw[aA] at e;cases e;exact new
  ·rw[ah hb] at e;refine (I.hok b u e).j3 (λc v hc q=>k c v ?_ q) (λc q=>by rw[ah (aQ q hn)];exact q) λc xs q=>by rw[ah (aQ q hn)];exact q
   rcases hc with rfl|hc
   ·exact nch _ _ e
   ·exact nch _ _ hc
end
abbrev J8 (l:Addr):It:=
 ⟨λi H=>∃ xs x,H l=some (.lst xs)/\xs[i]? =some x,λi H x H'=>∃ T y,H T=none/\x=.ref T/\H'=upd H T (.tup [.int i,y])/\∀ xs,H l=some (.lst xs)->xs[i]? =some y,λi H=>∃ xs,H l=some (.lst xs)/\xs.length<=i⟩
variable {elts:List Expr}
def xS {P:Program}{w:World}{K:W.Frag}{k:Nat}(l e it:Addr)(hei:e≠it):
  Turn P w K (.Tuple elts k pos) (J8 l) [e,it] e (λi h=>(∃ old,IsEnum h e it ((i:Nat):Int) old)/\h.IsListIter it l i) where
 mem:=by simp
 obj:=λi h st b hb=>by
  obtain ⟨⟨old,he⟩,hit⟩:=st;rcases nb.mp hb with rfl|hb
  ·exact ⟨_,he,λv z=>by
    have z':Data.fields _=Data.cell v:=z;cases z'⟩
  ·have e':b=it:=by simpa using hb
   subst e';obtain ⟨o,e,c,d⟩:=hit;exact ⟨o,e,λv z=>by rw[d] at z;cases z⟩
 keep:=λi h h' st k=>by
  obtain ⟨⟨old,he⟩,hit⟩:=st;exact ⟨⟨old,k e (by simp) _ he⟩,hit.at λo q=>k it (by simp) o q⟩
 item:=by
  intro X hP hw hK hc i Y s U H E I hf st hg;subst hP hw hK;obtain ⟨xs,x,hq,hx⟩:=hg;obtain ⟨⟨old,he⟩,hit⟩:=st;obtain ⟨its,rv,p,hz⟩:=I.list (aR.of hq);obtain ⟨u,hu,ru⟩:=rv.get hx;have heN:H e=none:=(hf e (by simp)).1;have hes:e≠s.heap.objs.size:=pi (ut he);obtain ⟨oi,hoi,_⟩:=id hit;have his:it≠s.heap.objs.size:=pi (ut hoi);refine wpAny_pyNext_enum_item he hit p.isList (x:=u) (by simpa using hu) hei λh1 heo hit1 ht1 hz1 hk1=>?_
  have I1:Inv X Y U (upd H s.heap.objs.size (.tup [.int i,x])) { s with heap:=h1,toks:=s.toks+1 }:=
   I.qo (ch:=[e,it]) (λb o hb q=>hk1 b o (λz=>hb (by simp[z])) (λz=>hb (by simp[z])) q) hf (re _)
    ⟨fits (pc rfl),[.int i s.toks,u],.cons ⟨_,rfl⟩ (.cons ru .nil),⟨_,ht1,rfl,_,rfl⟩⟩
  refine ⟨_,rfl,wpAny_letOwnedTupleGo_enum heo λh2 he2 hs2=>?_⟩;obtain ⟨f0,f1,f2,f3,f4,f5⟩:=hf e (by simp);have I2:=I1.turned (h':=h2) (t':=s.toks+1) (it:=e) (λb o hb q=>(hs2.2 b hb).trans q) (by rw[ah hes];exact heN) f1 f3 f4 f5;refine ⟨.ref s.heap.objs.size,_,I2,rfl,⟨_,x,I.hok.fresh (re _),rfl,rfl,λys hy=>?_⟩,⟨⟨_,by simpa using he2⟩,hit1.at λo q=>(hs2.2 it hei.symm).trans q⟩,λb hb=>?_⟩
  ·rw[hq] at hy;cases hy;exact hx
  ·have hb':b≠s.heap.objs.size:=by
    rcases nb.mp hb with rfl|hb
    ·exact hes
    ·have e':b=it:=by simpa using hb
     subst e';exact his
   rw[ah hb'];exact (hf b hb).1
 done:=by
  intro X hP hw hK hc i Y s U H E I hf st hg;subst hP hw hK;obtain ⟨xs,hq,hx⟩:=hg;obtain ⟨⟨old,he⟩,hit⟩:=st;obtain ⟨its,rv,p,hz⟩:=I.list (aR.of hq);obtain ⟨f0,f1,f2,f3,f4,f5⟩:=hf it (by simp);have hl:=rv.length;exact wpAny_pyNext_enum_end (I.ok.hd hc) he hit p.isList (by simp;omega) λh' eb=>⟨rfl,I.turned (t':=s.toks) (λb o hb q=>eb b o hb q) f0 f1 f3 f4 f5⟩
 self:=λ_ _ _ _ _ st h=>by
  obtain ⟨⟨old,he⟩,hit⟩:=st;exact wpAny_pyIter_enum he h
def oh:bootBuiltins "enumerate"=some (.type "enumerate"):=by decide+kernel
abbrev Jj (ta:TA):TI:=λU H R=>ta U H λvs H1=>∃ l,vs=[.ref l]/\(∃ xs,H1 l=some (.lst xs))/\R (J8 l) H1
def B2 {k:Nat}{a:Expr}{ta:TA}{p pos':Pos}(hg:Gl X "enumerate") (hm:X.mg "enumerate"=none) (ha:PA X [a] ta) (hs:bm [a] X.env=[(false,eval a X.env)]:=by rfl):
  PI X (.Tuple elts k pos') (.Call (.Name "enumerate" p) [a] [] pos) (Jj ta):=by
 intro Y s U H R I h;refine Call_ (cS I hg hm oh (PyProof.Rows.callWith_type1 (aC (ha pos Y s U H _ I h) λus s1 ⟨vs,H1,I1,r1,q1⟩=>?_) hs rfl));obtain ⟨l,e,⟨xs,hl⟩,q⟩:=q1;subst e;cases r1 with
 |cons r rr=>
  cases rr;cases r;obtain ⟨z,its,n,r,hlen,e⟩:=I1.qw hl;refine call_enumerate_1 e λh' he hit hsz hk=>?_
  refine wpAny_pyIter_enum he ?_;refine ⟨s1.heap.objs.size+1,[s1.heap.objs.size+1,s1.heap.objs.size],_,_,H1,rfl,I1.kept (t':=s1.toks) hk,xS l _ _ (Nat.succ_ne_self _),⟨⟨_,he⟩,hit⟩,λb hb=>?_,q⟩;have hb':s1.heap.objs.size<=b:=by
   rcases nb.mp hb with rfl|hb
   ·exact Nat.le_succ _
   ·have e':b=s1.heap.objs.size:=by simpa using hb
    exact Nat.le_of_eq e'.symm
  exact I1.yO hb' (I1.hok.fresh hb')
section
variable {g:TG}{tb:TS}{D:Ends}{U:St}{H:Hp}{ta:TA}
end
section
variable {X:Cx}
abbrev Dh:V->List V->Hp->VK->Prop:=λx vs H Q=>∃ l xs i y,x=.ref l/\vs=[.int i,y]/\H l=some (.lst xs)/\0<=i/\i<=xs.length/\xs.length<bn/\Q .non (upd H l (.lst (xs.take i.toNat++y::xs.drop i.toNat)))
def Vals.take':∀ {xs:List V}{us:List Value}(n:Nat),Vals xs us->Vals (xs.take n) (us.take n)
 |_,_,0,_=>by simpa using Paired.nil
 |_,_,n+1,.nil=>.nil
 |_,_,n+1,.cons r t=>.cons r (Vals.take' n t)
def Vals.drop':∀ {xs:List V}{us:List Value}(n:Nat),Vals xs us->Vals (xs.drop n) (us.drop n)
 |_,_,0,r=>r
 |_,_,n+1,.nil=>.nil
 |_,_,n+1,.cons r t=>Vals.drop' n t
def xO:LV X "list.insert" Dh:=by
 intro Y s U H x vs v us Q I rx rv h;obtain ⟨l,xs,i,y,rfl,rfl,hH,h0,h1,hz,q⟩:=h;cases rx;obtain ⟨u,u2,rfl,ru,ru2⟩:=vals2 rv;obtain ⟨t,rfl⟩:=ru;obtain ⟨z,its,n,r,hl,e⟩:=I.qw hH;have hk:i.toNat<=its.length:=by omega
 have hn:=gk;have hfit:¬ (!Builtin.List.listFitsIndex i)=true:=by
  rw[fitsIndex_both (k:=i) nofun nofun]
  decide
 have hsz:its.toArray.size<=bn:=by rw[ii];omega
 have hmt:=AutoSeq1.list_insert_list_int_val_1 l its.toArray n i t u2 hfit hsz;refine call_meets F.slot_list_insert ⟨_,e,rfl⟩ F.entry_list_insert (F.args_list_insert_3 _ _ _) hmt ⟨e,?_⟩;refine ⟨.non,_,I.FC (its':=its.take i.toNat++u2::its.drop i.toNat) hH e ?_ ?_ ?_,rfl,q⟩
 ·have ek:(if i<0 then (i+(its.toArray.size:Int)).toNat else min i.toNat its.toArray.size)=i.toNat:=by
   rw[if_neg nofun,ii];exact Nat.min_eq_left hk
  show ((its.toArray.extract 0 (if i<0 then (i+(its.toArray.size:Int)).toNat else min i.toNat its.toArray.size)).push u2++its.toArray.extract (if i<0 then (i+(its.toArray.size:Int)).toNat else min i.toNat its.toArray.size))=_;rw[ek];apply Array.ext';simp;exact take_of_length_le (by rw[jp];omega)
 ·exact (Vals.take' i.toNat r).append (.cons ru2 (Vals.drop' i.toNat r))
 ·rw[ci,length_cons,db,jp]
  omega
end
section
variable {K:W.Frag}{r:V->List V->Hp->VK->Prop}{to:TE}{t:TA}{U:St}{H:Hp}{Q:VK}
end
section
variable {H H1 H2:Hp}{p h c:Addr}{o:HO}{m:Int}
end
section
variable {H H':Hp}{xs ys:List V}{f:Nat->Int×Int}
end
section
variable {X:Cx}{a b c d:Expr}{ta tb tc td:TE}{pos:Pos}
abbrev Cs (r r' r2:R2)(ta tb tc td:TE):TE:=λU H Q=>ta U H λx H1=>tb U H1 λy H2=>r x y H2 λz H3=>sD z H3 λk H3=>
 (if k=true then tc U H3 λw' H4=>r' y w' H4 λz' H5=>sD z' H5 λk' H5=>(if k'=true then td U H5 λw2 H6=>r2 w' w2 H6 Q else Q (.bl false) H5) else Q (.bl false) H3)
def wF {op op' op2:CmpOp}{r r' r2:R2}(ho:cV X (compareOp op) r)(ho':cV X (compareOp op') r')(ho2:cV X (compareOp op2) r2)(ha:PE X a ta)(hb:PE X b tb)(hc:PE X c tc)(hd:PE X d td)
  (hm:lastMarks [op,op',op2] [b,c,d]=false:=by with_unfolding_all rfl):PE X (.Compare a [op,op',op2] [b,c,d] pos) (Cs r r' r2 ta tb tc td):=by
 intro Y s U H Q I h;refine Compare_chain (aC (ha Y s U H _ I h) λv s1 ⟨x,H1,I1,r1,q1⟩=>chain_link (aC (hb Y s1 U H1 _ I1 q1) λu s2 ⟨y,H2,I2,r2',q2⟩=>
  aC (ho Y s2 U H2 x y v u _ I2 r1 r2' q2) λd s3 ⟨z,H3,I3,r3,k,e,q3⟩=>?_)) hm
 subst e;cases r3;refine bi ?_;cases k with
 |false=>exact ite_ff ⟨.bl false,H3,I3,rfl,q3⟩
 |true=>
  refine ite_tt (chain_link (aC (hc Y s3 U H3 _ I3 q3) λw' s4 ⟨z',H4,I4,r4,q4⟩=>aC (ho' Y s4 U H4 y z' u w' _ I4 r2' r4 q4) λd2 s5 ⟨z2,H5,I5,r5,k2,e2,q5⟩=>?_));subst e2;cases r5;refine bi ?_;cases k2 with
  |false=>exact ite_ff ⟨.bl false,H5,I5,rfl,q5⟩
  |true=>exact ite_tt (chain_last (aC (hd Y s5 U H5 _ I5 q5) λw2 s6 ⟨z3,H6,I6,r6,q6⟩=>ho2 Y s6 U H6 z' z3 w' w2 Q I6 r4 r6 q6))
end
section
variable {K:W.Frag}{U:St}{H:Hp}{Q:VK}{ta tb tc td tv:TE}{t:TA}{f m:Str}{D:Ends}{C:Addr}{sp:Sp}{dvs:List V}{E:XK}
end
section
variable {g:TG}{tb:TS}{D:Ends}{U:St}{H:Hp}{ta:TA}
end
section
variable {C:Addr}{H H':Hp}{S D h c:Addr}{rs:List Rec}{r:Rec}
end
section
variable {X:Cx}
end
end L2
namespace L2
end L2
namespace L2
open PySem PySem.Spec PyProof.Rows
section
variable {C:Addr}{H HF:Hp}{S D h c:Addr}{rs:List Rec}{r':Rec}
end
section
variable {X:Cx}
end
structure L8 (K:W.Frag) (C:Addr):Prop where
 ha:W.findIn K (.ref C) "__class__"=some (some (.builtin "object.__class__"))
 hn:W.specialIn K (.builtin "object.__class__") "__get__"=some (some (.builtin "getset_descriptor.__get__"))
 htk:W.takesIn K (.builtin "object.__class__")=some true
 hm:W.mroIn K C (.type "object")=some true
end L2
namespace L2
open PySem PySem.Spec PySem.W PyProof.Rows
abbrev aO (tp:Bool)(h:Heap)(j b:Addr)(k:Nat):Prop:=match tp with
 |true=>h.IsTupleIter j b k
 |false=>h.IsListIter j b k
abbrev bA (tp:Bool)(h:Heap)(b:Addr)(xs:Array Value):Prop:=match tp with
 |true=>h.IsTuple b xs
 |false=>h.IsList b xs
variable {tp:Bool}{k:Nat}
def aO.to {h h':Heap}{j b:Addr}(g:aO tp h j b k)(e:∀ o,h.get? j=some o->h'.get? j=some o):aO tp h' j b k:=by
 cases tp
 ·obtain ⟨o,e1,r⟩:=(show h.IsListIter j b k from g);exact ⟨o,e o e1,r⟩
 ·obtain ⟨o,e1,r⟩:=(show h.IsTupleIter j b k from g);exact ⟨o,e o e1,r⟩
def bA.to {h h':Heap}{b:Addr}{xs:Array Value}(g:bA tp h b xs)(e:∀ o,h.get? b=some o->h'.get? b=some o):bA tp h' b xs:=by
 cases tp
 ·obtain ⟨o,e1,r⟩:=(show h.IsList b xs from g);exact ⟨o,e o e1,r⟩
 ·obtain ⟨o,e1,r⟩:=(show h.IsTuple b xs from g);exact ⟨o,e o e1,r⟩
def aO.lt {tp:Bool}{h:Heap}{j b:Addr}{k:Nat}(g:aO tp h j b k):j<h.objs.size:=by
 cases tp
 ·obtain ⟨o,e1,r⟩:=(show h.IsListIter j b k from g);exact ut e1
 ·obtain ⟨o,e1,r⟩:=(show h.IsTupleIter j b k from g);exact ut e1
def bA.lt {tp:Bool}{h:Heap}{b:Addr}{xs:Array Value}(g:bA tp h b xs):b<h.objs.size:=by
 cases tp
 ·obtain ⟨o,e1,r⟩:=(show h.IsList b xs from g);exact ut e1
 ·obtain ⟨o,e1,r⟩:=(show h.IsTuple b xs from g);exact ut e1
variable {Q:NC}{c:Addr}{T:Int}{fb:Bool}{oT:Obj}{elts:List Expr}{pos:Pos}
section
variable {prog:Program}{w:World}{A:Around}{E:NC}{s:Shared}
def Ft {j b:Addr}{xs:Array Value}{x:Value}(g:s.heap.IsTupleIter j b k)(t:s.heap.IsTuple b xs)(hx:xs[k]? =some x)
  (q:∀ h',h'.IsTupleIter j b (k+1)->Heap.SameBut j s.heap h'->Q x { s with heap:=h' }):wpAny (model prog w) A (Builtin.SmallTypes.nextOf (.ref j)) Q E s:=by
 obtain ⟨o1,e1,c1,d1⟩:=id g;obtain ⟨o2,e2,_,n2,d2⟩:=t;unfold Builtin.SmallTypes.nextOf;refine ad (wpAny_callSpecial?_slot (name:=Str.ofString "__next__") g.typeIs F.slot_tuple_iterator_next (wpAny_call_entry F.slot_tuple_iterator_next g.typeIs F.entry_tuple_iterator_next ?_ (F.args_tuple_iterator_next_1 _)));show wpAny _ _ (field (.ref j) 0 >>= _) _ _ s;refine ad (ap e1 d1 (x:=.ref b) rfl ?_);show wpAny _ _ (if (Value.ref b ==Value.none)=true then _ else _) _ _ s;rw[if_neg (show ¬ ((Value.ref b ==Value.none)=true) from Bool.false_ne_true)];show wpAny _ _ (field (.ref j) 1 >>= _) _ _ s;refine ad (ap e1 d1 (x:=.int k 0) rfl ?_);show wpAny _ _ (seqItems? (.ref b) >>= _) _ _ s;refine ad (wpAny_seqItems e2 d2 ?_);simp only[sn,hx];refine ad (wpAny_setField e1 d1 (by simp) (am ⟨x,rfl,am (q _ ?_ (Heap.SameBut.update ..))⟩));refine ⟨_,Heap.get?_update_self _ e1 (Obj.isFreed_of_fields (Obj.data_mapFields d1 _)),(Obj.cls_mapFields ..).trans c1,?_⟩;rw[Obj.data_mapFields d1];simp[rawInt]
def Dy {j b:Addr}{xs:Array Value}(hh:A.handled=none)(g:s.heap.IsTupleIter j b k)(t:s.heap.IsTuple b xs)(hx:xs[k]? =none)
  (q:∀ h' e,Heap.ExtBut j s.heap h'->(∃ o,h'.get? e=some o/\o.cls=.type "StopIteration")->E (.ref e) { s with heap:=h' }):wpAny (model prog w) A (Builtin.SmallTypes.nextOf (.ref j)) Q E s:=by
 obtain ⟨o1,e1,c1,d1⟩:=id g;obtain ⟨o2,e2,_,n2,d2⟩:=t;unfold Builtin.SmallTypes.nextOf;refine ad (wpAny_callSpecial?_slot (name:=Str.ofString "__next__") g.typeIs F.slot_tuple_iterator_next (wpAny_call_entry F.slot_tuple_iterator_next g.typeIs F.entry_tuple_iterator_next ?_ (F.args_tuple_iterator_next_1 _)));show wpAny _ _ (field (.ref j) 0 >>= _) _ _ s;refine ad (ap e1 d1 (x:=.ref b) rfl ?_);show wpAny _ _ (if (Value.ref b ==Value.none)=true then _ else _) _ _ s;rw[if_neg (show ¬ ((Value.ref b ==Value.none)=true) from Bool.false_ne_true)];show wpAny _ _ (field (.ref j) 1 >>= _) _ _ s;refine ad (ap e1 d1 (x:=.int k 0) rfl ?_);show wpAny _ _ (seqItems? (.ref b) >>= _) _ _ s;refine ad (wpAny_seqItems e2 d2 ?_);simp only[sn,hx];refine ad (wpAny_rule (ad (wpAny_setField e1 d1 (by simp) ?_)));show wpAny _ _ (newExc (.type "StopIteration") [] >>= _) _ _ _;refine ad ?_;simp only[newExc,newTuple];refine ad (wpAny_newObj_type ?_ (by size_fits));refine ad (m:=firstArgMember _ _) (wpAny_of_eq (a:=Value.none) (by first|rfl|(simp only[firstArgMember];rfl)) ?_);refine wpAny_newObj_type ?_ (by size_fits);simp only[raiseNew];refine ad (wpAny_handled ?_);first|rw[show A.in1.handled=none from hh]|rw[hh]
 refine ad (am (wpAny_throw ?_));exact q _ _ (((Heap.SameBut.update ..).extBut.push _).push _) ⟨_,v4 _ rfl,rfl⟩
def fE {j b:Addr}{xs:Array Value}{x:Value}(g:aO tp s.heap j b k)(t:bA tp s.heap b xs)(hx:xs[k]? =some x)
  (q:∀ h',aO tp h' j b (k+1)->Heap.SameBut j s.heap h'->Q x { s with heap:=h' }):wpAny (model prog w) A (Builtin.SmallTypes.nextOf (.ref j)) Q E s:=by
 cases tp
 ·exact wpAny_nextOf_list_item g t hx q
 ·exact Ft g t hx q
def oO {j b:Addr}{xs:Array Value}(hh:A.handled=none)(g:aO tp s.heap j b k)(t:bA tp s.heap b xs)(hx:xs[k]? =none)
  (q:∀ h' e,Heap.ExtBut j s.heap h'->(∃ o,h'.get? e=some o/\o.cls=.type "StopIteration")->E (.ref e) { s with heap:=h' }):wpAny (model prog w) A (Builtin.SmallTypes.nextOf (.ref j)) Q E s:=by
 cases tp
 ·exact wpAny_nextOf_list_end hh g t hx q
 ·exact Dy hh g t hx q
@[reducible]def bC (h:Heap) (z TI TO:Addr) (f0 f1:Value):Prop:=h.get? z=some { cls:=.type "zip",dict:=none,data:=.fields #[f0,f1,.bool false,.ref TI,.ref TO],slots:=#[] }
variable {z TI TO i1 i2 l1 l2:Addr}{k1 k2:Nat}{tp1 tp2:Bool}{xs ys:Array Value}{x y a b f1:Value}
def C9 (D:ZipApart z TI TO i1 i2 l1 l2)(hz:bC s.heap z TI TO .none f1)(hI:IsPair s.heap TI (.ref i1) (.ref i2))(hO:IsPair s.heap TO a b)
  (g1:aO tp1 s.heap i1 l1 k1) (g2:aO tp2 s.heap i2 l2 k2) (t1:bA tp1 s.heap l1 xs) (t2:bA tp2 s.heap l2 ys) (hx:xs[k1]? =some x) (hy:ys[k2]? =some y)
  (q:∀ h',bC h' z TI TO (rawInt s.heap.objs.size) (.bool false)->IsPair h' TO x y->aO tp1 h' i1 l1 (k1+1)->aO tp2 h' i2 l2 (k2+1)->IsPair h' s.heap.objs.size x y->h'.objs.size=s.heap.objs.size+1->
   (∀ c o,c≠z->c≠TO->c≠i1->c≠i2->s.heap.get? c=some o->h'.get? c=some o)->Q (.ref s.heap.objs.size) { s with heap:=h' }):
  wpAny (model prog w) A (Builtin.«zip.__next__» ⟨[.ref z],[]⟩) (λfin s'=>∃ v,fin=.done (.ret v)/\Q v s') E s:=by
 show wpAny _ _ (field (.ref z) 2 >>= _) _ _ _;refine ad (ap (x:=.bool false) hz rfl rfl ?_);show wpAny _ _ (field (.ref z) 3 >>= _) _ _ _;refine ad (ap (x:=.ref TI) hz rfl rfl ?_);refine ad (wpAny_seqItems hI rfl ?_);show wpAny _ _ (Builtin.SmallTypes.ownedTupleIsFree (.ref z) >>= _) _ _ _;refine ad ?_;unfold Builtin.SmallTypes.ownedTupleIsFree;refine ad (ap (x:=.none) hz rfl rfl (am ?_));simp only[if_true];refine ad (wpAny_rule ?_);refine ad (ap (x:=.ref TO) hz rfl rfl ?_);refine ad (wpAny_setField_rec hz (by simp) λp1 z1 b1=>?_)
 replace z1:bC p1 z TI TO .ellipsis f1:=z1
 refine ad ?_;simp only[List.zipIdx_cons,List.zipIdx_nil,forIn_cons,forIn_nil];refine ad (ad (wpAny_onRaise ?_));show wpAny _ _ (Builtin.SmallTypes.nextOf (.ref i1) >>= _) _ _ _;refine ad (fE (g1.to λo e=>b1.extBut _ o D.i1z e) (t1.to λo e=>b1.extBut _ o D.l1z e) hx λp2 g1b b2=>am ?_);have hO2:IsPair p2 TO a b:=b2.extBut _ _ D.TOi1 (b1.extBut _ _ D.TOz hO);refine ad (wpAny_seqItems hO2 rfl ?_);refine ad (wpAny_updateSeq_pair hO2 λp3 hO3 b3=>?_)
 replace hO3:IsPair p3 TO x b:=hO3
 refine ad (wpAny_letGo (am ?_));refine ad (ad (wpAny_onRaise ?_));show wpAny _ _ (Builtin.SmallTypes.nextOf (.ref i2) >>= _) _ _ _;refine ad (fE (g2.to λo e=>b3.extBut _ o D.TOi2.symm (b2.extBut _ o D.i12.symm (b1.extBut _ o D.i2z e))) (t2.to λo e=>b3.extBut _ o D.l2TO (b2.extBut _ o D.l2i1 (b1.extBut _ o D.l2z e))) hy λp4 g2b b4=>am ?_);have hO4:IsPair p4 TO x b:=b4.extBut _ _ D.TOi2 hO3;refine ad (wpAny_seqItems hO4 rfl ?_);refine ad (wpAny_updateSeq_pair hO4 λp5 hO5 b5=>?_)
 replace hO5:IsPair p5 TO x y:=hO5
 refine ad (wpAny_letGo (am (am ?_)));refine ad (wpAny_seqItems hO5 rfl ?_);refine ad (wpAny_newTuple ?_);have hsz:p5.objs.size=s.heap.objs.size:=by rw[b5.1,b4.1,b3.1,b2.1,b1.1]
 have z5:bC p5 z TI TO .ellipsis f1:=b5.extBut _ _ D.TOz.symm (b4.extBut _ _ D.i2z.symm (b3.extBut _ _ D.TOz.symm (b2.extBut _ _ D.i1z.symm z1)));have k5:∀ c o,c≠z->c≠TO->c≠i1->c≠i2->s.heap.get? c=some o->p5.get? c=some o:=λc o n1 n2 n3 n4 e=>b5.extBut _ _ n2 (b4.extBut _ _ n4 (b3.extBut _ _ n2 (b2.extBut _ _ n3 (b1.extBut _ _ n1 e))))
 have g15:aO tp1 p5 i1 l1 (k1+1):=g1b.to λo e=>b5.extBut _ o D.TOi1.symm (b4.extBut _ o D.i12 (b3.extBut _ o D.TOi1.symm e))
 have g25:aO tp2 p5 i2 l2 (k2+1):=g2b.to λo e=>b5.extBut _ o D.TOi2.symm e
 have zlt:z<p5.objs.size:=ut z5;show wpAny _ _ (Builtin.SmallTypes.ownedTupleHandOut (.ref z) (.ref p5.objs.size) >>= _) _ _ _;refine ad ?_;unfold Builtin.SmallTypes.ownedTupleHandOut;have z6:bC (p5.push { cls:=.type "tuple",data:=.seq #[x,y] }) z TI TO .ellipsis f1:=ul _ z5;refine ad (wpAny_setField_rec z6 (by simp) λp7 z7 b7=>?_)
 replace z7:bC p7 z TI TO (rawInt p5.objs.size) f1:=z7
 refine wpAny_setField_rec z7 (by simp) λp8 z8 b8=>?_
 replace z8:bC p8 z TI TO (rawInt p5.objs.size) (.bool false):=z8
 have up:∀ c o,c≠z->p5.get? c=some o->p8.get? c=some o:=λc o n1 e=>b8.extBut _ _ n1 (b7.extBut _ _ n1 (ul _ e))
 have hT:IsPair p8 p5.objs.size x y:=b8.extBut _ _ (Nat.ne_of_gt zlt) (b7.extBut _ _ (Nat.ne_of_gt zlt) (v4 _ rfl));have h8:p8.objs.size=p5.objs.size+1:=by rw[b8.1,b7.1,Heap.size_push]
 rw[hsz] at z8 hT h8;refine am ⟨_,rfl,?_⟩;show Q (.ref p5.objs.size) _;rw[hsz];exact q p8 z8 (up _ _ D.TOz hO5) (g15.to λo e=>up _ o D.i1z e) (g25.to λo e=>up _ o D.i2z e) hT h8 λc o n1 n2 n3 n4 e=>up c o n1 (k5 c o n1 n2 n3 n4 e)
def Gy {Q:Fin->Shared->Prop}(hh:A.handled=none)(D:ZipApart z TI TO i1 i2 l1 l2)(hz:bC s.heap z TI TO .none f1)(hI:IsPair s.heap TI (.ref i1) (.ref i2))(hO:IsPair s.heap TO a b)
  (g1:aO tp1 s.heap i1 l1 k1) (g2:aO tp2 s.heap i2 l2 k2) (t1:bA tp1 s.heap l1 xs) (t2:bA tp2 s.heap l2 ys) (hx:xs[k1]? =none\/ys[k2]? =none)
  (q:∀ h' e,(∀ c o,c≠z->c≠TO->c≠i1->c≠i2->s.heap.get? c=some o->h'.get? c=some o)->(∃ o,h'.get? e=some o/\o.cls=.type "StopIteration")->E (.ref e) { s with heap:=h' }):
  wpAny (model prog w) A (Builtin.«zip.__next__» ⟨[.ref z],[]⟩) Q E s:=by
 show wpAny _ _ (field (.ref z) 2 >>= _) _ _ _;refine ad (ap (x:=.bool false) hz rfl rfl ?_);show wpAny _ _ (field (.ref z) 3 >>= _) _ _ _;refine ad (ap (x:=.ref TI) hz rfl rfl ?_);refine ad (wpAny_seqItems hI rfl ?_);show wpAny _ _ (Builtin.SmallTypes.ownedTupleIsFree (.ref z) >>= _) _ _ _;refine ad ?_;unfold Builtin.SmallTypes.ownedTupleIsFree;refine ad (ap (x:=.none) hz rfl rfl (am ?_));simp only[if_true];refine ad (wpAny_rule ?_);refine ad (ap (x:=.ref TO) hz rfl rfl ?_);refine ad (wpAny_setField_rec hz (by simp) λp1 z1 b1=>?_)
 replace z1:bC p1 z TI TO .ellipsis f1:=z1
 refine ad ?_;simp only[List.zipIdx_cons,List.zipIdx_nil,forIn_cons,forIn_nil];refine ad (ad (wpAny_onRaise ?_));show wpAny _ _ (Builtin.SmallTypes.nextOf (.ref i1) >>= _) _ _ _;cases e1:xs[k1]? with
 |none=>
  refine ad (oO hh (g1.to λo e=>b1.extBut _ o D.i1z e) (t1.to λo e=>b1.extBut _ o D.l1z e) e1 λp2 e b2 he=>?_);obtain ⟨oe,ho,hc⟩:=he;have z2:bC p2 z TI TO .ellipsis f1:=b2 _ _ D.i1z.symm z1;have ne:e≠z:=λn=>by subst n;rw[z2] at ho;cases ho;simp at hc
  exact wpAny_setField_rec z2 (by simp) λp3 _ b3=>q p3 e (λc o n1 _ n3 _ v=>b3.extBut _ _ n1 (b2 _ _ n3 (b1.extBut _ _ n1 v))) ⟨oe,b3.extBut _ _ ne ho,hc⟩
 |some x=>
  have e2:ys[k2]? =none:=by rcases hx with h|h;(rw[e1] at h;cases h);exact h
  refine ad (fE (g1.to λo e=>b1.extBut _ o D.i1z e) (t1.to λo e=>b1.extBut _ o D.l1z e) e1 λp2 g1b b2=>am ?_);have hO2:IsPair p2 TO a b:=b2.extBut _ _ D.TOi1 (b1.extBut _ _ D.TOz hO);refine ad (wpAny_seqItems hO2 rfl ?_);refine ad (wpAny_updateSeq_pair hO2 λp3 hO3 b3=>?_);refine ad (wpAny_letGo (am ?_));refine ad (ad (wpAny_onRaise ?_));show wpAny _ _ (Builtin.SmallTypes.nextOf (.ref i2) >>= _) _ _ _;refine ad (oO hh (g2.to λo e=>b3.extBut _ o D.TOi2.symm (b2.extBut _ o D.i12.symm (b1.extBut _ o D.i2z e))) (t2.to λo e=>b3.extBut _ o D.l2TO (b2.extBut _ o D.l2i1 (b1.extBut _ o D.l2z e))) e2 λp4 e b4 he=>?_);obtain ⟨oe,ho,hc⟩:=he;have z4:bC p4 z TI TO .ellipsis f1:=b4 _ _ D.i2z.symm (b3.extBut _ _ D.TOz.symm (b2.extBut _ _ D.i1z.symm z1));have ne:e≠z:=λn=>by subst n;rw[z4] at ho;cases ho;simp at hc
  exact wpAny_setField_rec z4 (by simp) λp5 _ b5=>q p5 e (λc o n1 n2 n3 n4 v=>b5.extBut _ _ n1 (b4 _ _ n4 (b3.extBut _ _ n2 (b2.extBut _ _ n3 (b1.extBut _ _ n1 v))))) ⟨oe,b5.extBut _ _ ne ho,hc⟩
def rC {Q:Option Obj->Shared->Prop}(h:Q (s.heap.get? c) s):wpAny (model prog w) A (loadIfAlive c) Q E s:=λ_ _ _=>h
variable {t:Tok}
def rF {Q:Bool->Shared->Prop}(hz:bC s.heap z TI TO (.int T t) (.bool fb))(hT:s.heap.get? T.toNat=some oT)(q:∀ h',bC h' z TI TO (.int T t) (.bool true)->Heap.SameBut z s.heap h'->Q false { s with heap:=h' }):
  wpAny (model prog w) A (Builtin.SmallTypes.ownedTupleIsFree (.ref z)) Q E s:=by
 unfold Builtin.SmallTypes.ownedTupleIsFree;refine ad (ap (x:=.int T t) hz rfl rfl ?_);refine ad (rC ?_);rw[hT];refine ad (ap (x:=.bool fb) hz rfl rfl ?_);cases fb
 ·refine ad (wpAny_setField_rec hz (by simp) λp1 z1 b1=>am ?_);exact q p1 z1 b1
 ·exact ad (am (am (q s.heap hz (Heap.SameBut.refl ..))))
def DO (D:ZipApart z TI TO i1 i2 l1 l2)(hz:bC s.heap z TI TO (.int T t) (.bool fb))(hT:s.heap.get? T.toNat=some oT)(hI:IsPair s.heap TI (.ref i1) (.ref i2))
  (g1:aO tp1 s.heap i1 l1 k1) (g2:aO tp2 s.heap i2 l2 k2) (t1:bA tp1 s.heap l1 xs) (t2:bA tp2 s.heap l2 ys) (hx:xs[k1]? =some x) (hy:ys[k2]? =some y)
  (q:∀ h',bC h' z TI TO (.int T t) (.bool true)->aO tp1 h' i1 l1 (k1+1)->aO tp2 h' i2 l2 (k2+1)->IsPair h' s.heap.objs.size x y->h'.objs.size=s.heap.objs.size+1->
   (∀ c o,c≠z->c≠i1->c≠i2->s.heap.get? c=some o->h'.get? c=some o)->Q (.ref s.heap.objs.size) { s with heap:=h' }):
  wpAny (model prog w) A (Builtin.«zip.__next__» ⟨[.ref z],[]⟩) (λfin s'=>∃ v,fin=.done (.ret v)/\Q v s') E s:=by
 show wpAny _ _ (field (.ref z) 2 >>= _) _ _ _;refine ad (ap (x:=.bool false) hz rfl rfl ?_);show wpAny _ _ (field (.ref z) 3 >>= _) _ _ _;refine ad (ap (x:=.ref TI) hz rfl rfl ?_);refine ad (wpAny_seqItems hI rfl ?_);show wpAny _ _ (Builtin.SmallTypes.ownedTupleIsFree (.ref z) >>= _) _ _ _;refine ad (rF hz hT λp1 z1 b1=>?_);simp only[Bool.false_eq_true,if_false];simp only[List.forIn_toArray,forIn_cons,forIn_nil];refine ad (ad (ad (bd ?_)));show wpAny _ _ (Builtin.SmallTypes.nextOf (.ref i1) >>= _) _ _ _;refine ad (fE (g1.to λo e=>b1.extBut _ o D.i1z e) (t1.to λo e=>b1.extBut _ o D.l1z e) hx λp2 g1b b2=>am (am ?_));dsimp only;refine ad (ad (bd ?_));show wpAny _ _ (Builtin.SmallTypes.nextOf (.ref i2) >>= _) _ _ _;refine ad (fE (g2.to λo e=>b2.extBut _ o D.i12.symm (b1.extBut _ o D.i2z e)) (t2.to λo e=>b2.extBut _ o D.l2i1 (b1.extBut _ o D.l2z e)) hy λp3 g2b b3=>am (am (am ?_)));dsimp only;refine ad (wpAny_newTuple ?_ (hsz:=fits (pc rfl)));have hsz:p3.objs.size=s.heap.objs.size:=by rw[b3.1,b2.1,b1.1]
 refine am ⟨_,rfl,?_⟩;show Q (.ref p3.objs.size) _;have z3:bC p3 z TI TO (.int T t) (.bool true):=b3.extBut _ _ D.i2z.symm (b2.extBut _ _ D.i1z.symm z1);rw[hsz];refine q _ (ul _ z3) (g1b.to λo e=>ul _ (b3.extBut _ o D.i12 e)) (g2b.to λo e=>ul _ e) (by rw[<-hsz];exact v4 _ rfl) (by rw[Heap.size_push,hsz]) λc o n1 n2 n3 e=>?_
 exact ul _ (b3.extBut _ _ n3 (b2.extBut _ _ n2 (b1.extBut _ _ n1 e)))
def Ay {Q:Fin->Shared->Prop}(hh:A.handled=none)(D:ZipApart z TI TO i1 i2 l1 l2)(hz:bC s.heap z TI TO (.int T t) (.bool fb))(hT:s.heap.get? T.toNat=some oT)(hI:IsPair s.heap TI (.ref i1) (.ref i2))
  (g1:aO tp1 s.heap i1 l1 k1) (g2:aO tp2 s.heap i2 l2 k2) (t1:bA tp1 s.heap l1 xs) (t2:bA tp2 s.heap l2 ys) (hx:xs[k1]? =none\/ys[k2]? =none)
  (q:∀ h' e,(∀ c o,c≠z->c≠i1->c≠i2->s.heap.get? c=some o->h'.get? c=some o)->(∃ o,h'.get? e=some o/\o.cls=.type "StopIteration")->E (.ref e) { s with heap:=h' }):
  wpAny (model prog w) A (Builtin.«zip.__next__» ⟨[.ref z],[]⟩) Q E s:=by
 show wpAny _ _ (field (.ref z) 2 >>= _) _ _ _;refine ad (ap (x:=.bool false) hz rfl rfl ?_);show wpAny _ _ (field (.ref z) 3 >>= _) _ _ _;refine ad (ap (x:=.ref TI) hz rfl rfl ?_);refine ad (wpAny_seqItems hI rfl ?_);show wpAny _ _ (Builtin.SmallTypes.ownedTupleIsFree (.ref z) >>= _) _ _ _;refine ad (rF hz hT λp1 z1 b1=>?_);simp only[Bool.false_eq_true,if_false];simp only[List.forIn_toArray,forIn_cons,forIn_nil];refine ad (ad (ad (bd ?_)));show wpAny _ _ (Builtin.SmallTypes.nextOf (.ref i1) >>= _) _ _ _;cases e1:xs[k1]? with
 |none=>exact ad (oO hh (g1.to λo e=>b1.extBut _ o D.i1z e) (t1.to λo e=>b1.extBut _ o D.l1z e) e1 λp2 e b2 he=>q p2 e (λc o n1 n2 n3 v=>b2 _ _ n2 (b1.extBut _ _ n1 v)) he)
 |some x=>
  have e2:ys[k2]? =none:=by rcases hx with h|h;(rw[e1] at h;cases h);exact h
  refine ad (fE (g1.to λo e=>b1.extBut _ o D.i1z e) (t1.to λo e=>b1.extBut _ o D.l1z e) e1 λp2 g1b b2=>am (am ?_));dsimp only;refine ad (ad (bd ?_));show wpAny _ _ (Builtin.SmallTypes.nextOf (.ref i2) >>= _) _ _ _;exact ad (oO hh (g2.to λo e=>b2.extBut _ o D.i12.symm (b1.extBut _ o D.i2z e)) (t2.to λo e=>b2.extBut _ o D.l2i1 (b1.extBut _ o D.l2z e)) e2 λp4 e b4 he=>q p4 e (λc o n1 n2 n3 v=>b4 _ _ n3 (b2.extBut _ _ n2 (b1.extBut _ _ n1 v))) he)
def vh {Q:NA}(D:ZipApart z TI TO i1 i2 l1 l2)(hz:bC s.heap z TI TO .none f1)(hI:IsPair s.heap TI (.ref i1) (.ref i2))(hO:IsPair s.heap TO a b)
  (g1:aO tp1 s.heap i1 l1 k1) (g2:aO tp2 s.heap i2 l2 k2) (t1:bA tp1 s.heap l1 xs) (t2:bA tp2 s.heap l2 ys) (hx:xs[k1]? =some x) (hy:ys[k2]? =some y)
  (q:∀ h',bC h' z TI TO (rawInt s.heap.objs.size) (.bool false)->IsPair h' TO x y->aO tp1 h' i1 l1 (k1+1)->aO tp2 h' i2 l2 (k2+1)->IsPair h' s.heap.objs.size x y->h'.objs.size=s.heap.objs.size+1->
   (∀ c o,c≠z->c≠TO->c≠i1->c≠i2->s.heap.get? c=some o->h'.get? c=some o)->Q (some (.ref s.heap.objs.size)) { s with heap:=h' }):wpAny (model prog w) A (pyNext (.ref z)) Q E s:=by
 have hT:s.TypeIs (.ref z) "zip":=⟨_,hz,rfl⟩;unfold pyNext;exact ad (wpAny_attempt (wpAny_callSpecial?_slot (name:=Str.ofString "__next__") hT F.slot_zip_next (wpAny_call_entry F.slot_zip_next hT F.entry_zip_next (C9 D hz hI hO g1 g2 t1 t2 hx hy λh' a1 a2 a3 a4 a5 a6 a7=>am (q h' a1 a2 a3 a4 a5 a6 a7)) (F.args_zip_next_1 _))))
def Cb {Q:NA}(D:ZipApart z TI TO i1 i2 l1 l2)(hz:bC s.heap z TI TO (.int T t) (.bool fb))(hT:s.heap.get? T.toNat=some oT)(hI:IsPair s.heap TI (.ref i1) (.ref i2))
  (g1:aO tp1 s.heap i1 l1 k1) (g2:aO tp2 s.heap i2 l2 k2) (t1:bA tp1 s.heap l1 xs) (t2:bA tp2 s.heap l2 ys) (hx:xs[k1]? =some x) (hy:ys[k2]? =some y)
  (q:∀ h',bC h' z TI TO (.int T t) (.bool true)->aO tp1 h' i1 l1 (k1+1)->aO tp2 h' i2 l2 (k2+1)->IsPair h' s.heap.objs.size x y->h'.objs.size=s.heap.objs.size+1->
   (∀ c o,c≠z->c≠i1->c≠i2->s.heap.get? c=some o->h'.get? c=some o)->Q (some (.ref s.heap.objs.size)) { s with heap:=h' }):wpAny (model prog w) A (pyNext (.ref z)) Q E s:=by
 have hT':s.TypeIs (.ref z) "zip":=⟨_,hz,rfl⟩;unfold pyNext;exact ad (wpAny_attempt (wpAny_callSpecial?_slot (name:=Str.ofString "__next__") hT' F.slot_zip_next (wpAny_call_entry F.slot_zip_next hT' F.entry_zip_next (DO D hz hT hI g1 g2 t1 t2 hx hy λh' a1 a2 a3 a4 a5 a6=>am (q h' a1 a2 a3 a4 a5 a6)) (F.args_zip_next_1 _))))
def Aa {Q:NA}(hh:A.handled=none)(D:ZipApart z TI TO i1 i2 l1 l2)(hz:bC s.heap z TI TO .none f1)(hI:IsPair s.heap TI (.ref i1) (.ref i2))(hO:IsPair s.heap TO a b)
  (g1:aO tp1 s.heap i1 l1 k1) (g2:aO tp2 s.heap i2 l2 k2) (t1:bA tp1 s.heap l1 xs) (t2:bA tp2 s.heap l2 ys) (hx:xs[k1]? =none\/ys[k2]? =none)
  (q:∀ h',(∀ c o,c≠z->c≠TO->c≠i1->c≠i2->s.heap.get? c=some o->h'.get? c=some o)->Q none { s with heap:=h' }):wpAny (model prog w) A (pyNext (.ref z)) Q E s:=by
 have hT:s.TypeIs (.ref z) "zip":=⟨_,hz,rfl⟩;unfold pyNext;refine ad (wpAny_attempt (wpAny_callSpecial?_slot (name:=Str.ofString "__next__") hT F.slot_zip_next (wpAny_call_entry F.slot_zip_next hT F.entry_zip_next (Gy hh D hz hI hO g1 g2 t1 t2 hx λh' e k ⟨o,ho,hc⟩=>?_) (F.args_zip_next_1 _))));exact ad (wpAny_isInstance (T:="StopIteration") (b:=true) ⟨o,ho,hc⟩ isSubtype_stop (am (q _ k)))
def Av {Q:NA}(hh:A.handled=none)(D:ZipApart z TI TO i1 i2 l1 l2)(hz:bC s.heap z TI TO (.int T t) (.bool fb))(hT:s.heap.get? T.toNat=some oT)(hI:IsPair s.heap TI (.ref i1) (.ref i2))
  (g1:aO tp1 s.heap i1 l1 k1) (g2:aO tp2 s.heap i2 l2 k2) (t1:bA tp1 s.heap l1 xs) (t2:bA tp2 s.heap l2 ys) (hx:xs[k1]? =none\/ys[k2]? =none)
  (q:∀ h',(∀ c o,c≠z->c≠i1->c≠i2->s.heap.get? c=some o->h'.get? c=some o)->Q none { s with heap:=h' }):wpAny (model prog w) A (pyNext (.ref z)) Q E s:=by
 have hT':s.TypeIs (.ref z) "zip":=⟨_,hz,rfl⟩;unfold pyNext;refine ad (wpAny_attempt (wpAny_callSpecial?_slot (name:=Str.ofString "__next__") hT' F.slot_zip_next (wpAny_call_entry F.slot_zip_next hT' F.entry_zip_next (Ay hh D hz hT hI g1 g2 t1 t2 hx λh' e k ⟨o,ho,hc⟩=>?_) (F.args_zip_next_1 _))));exact ad (wpAny_isInstance (T:="StopIteration") (b:=true) ⟨o,ho,hc⟩ isSubtype_stop (am (q _ k)))
abbrev k9 (tp:Bool)(c:Addr):Obj:=match tp with
 |true=>{ cls:=.type "tuple_iterator",data:=.fields #[.ref c,.int 0 0] }
 |false=>{ cls:=.type "list_iterator",data:=.fields #[.ref c,.int 0 0] }
def qT {vs:Array Value}(t:bA tp s.heap c vs)(q:Q (.ref s.heap.objs.size) { s with heap:=s.heap.push (k9 tp c) }):wpAny (model prog w) A (pyIter (.ref c)) Q E s:=by
 cases tp
 ·exact wpAny_pyIter_list t q
 ·exact wpAny_pyIter_tuple t q
noncomputable abbrev EE (h:Heap)(tp1 tp2:Bool)(l1 l2:Addr):Heap:=((((h.push (k9 tp1 l1)).push (k9 tp2 l2)).push { cls:=.type "tuple",data:=.seq #[.ref h.objs.size,.ref (h.objs.size+1)] }).push { cls:=.type "tuple",data:=.seq #[.none,.none] }).push { cls:=.type "zip",data:=.fields #[.none,.bool false,.bool false,.ref (h.objs.size+2),.ref (h.objs.size+3)] }
def DT (tp1 tp2:Bool)(l1 l2:Addr)(xs ys:Array Value):Meets (Builtin.«zip.__new__» ⟨[.type "zip",.ref l1,.ref l2],[]⟩)
  (λ_ R s=>bA tp1 s.heap l1 xs/\bA tp2 s.heap l2 ys/\R (.ok (.ret (.ref (s.heap.objs.size+4)))) { s with heap:=EE s.heap tp1 tp2 l1 l2 }):=.of_wp λprog w A R s h=>by
 obtain ⟨hp,g,d,tk,os⟩:=s;obtain ⟨t1,t2,q⟩:=h;have hsub:=sub_zip;have t2':bA tp2 (hp.push (k9 tp1 l1)) l2 ys:=t2.to λo e=>ul _ e
 wp_walk using qT (s:=⟨hp,g,d,tk,os⟩) t1,qT (s:=⟨hp.push (k9 tp1 l1),g,d,tk,os⟩) t2'
 refine ⟨_,rfl,?_⟩;simp only[Heap.size_push,Nat.add_assoc] at q⊢;exact q
def rJ (t1:bA tp1 s.heap l1 xs)(t2:bA tp2 s.heap l2 ys)
  (q:∀ h',bC h' (s.heap.objs.size+4) (s.heap.objs.size+2) (s.heap.objs.size+3) .none (.bool false)->IsPair h' (s.heap.objs.size+2) (.ref s.heap.objs.size) (.ref (s.heap.objs.size+1))->
   IsPair h' (s.heap.objs.size+3) .none .none->aO tp1 h' s.heap.objs.size l1 0->aO tp2 h' (s.heap.objs.size+1) l2 0->h'.objs.size=s.heap.objs.size+5->
   (∀ c o,s.heap.get? c=some o->h'.get? c=some o)->Q (.ref (s.heap.objs.size+4)) { s with heap:=h' }):
  wpAny (model prog w) A (call (.type "zip") [.ref l1,.ref l2]) Q E s:=by
 refine callType_new F.called_zip (by decide) (F.typeCall_zip_2 _ _) (F.newCall_zip_2 _ _) (λobj=>F.args_object_init_3 obj _ _) F.entry_zip_new (DT tp1 tp2 l1 l2 xs ys) ⟨t1,t2,?_⟩;generalize hn:s.heap.objs.size=n at q⊢;have z0:(s.heap.push (k9 tp1 l1)).objs.size=n+1:=by rw[Heap.size_push,hn]
 have z1:((s.heap.push (k9 tp1 l1)).push (k9 tp2 l2)).objs.size=n+2:=by rw[Heap.size_push,z0]
 have z2:(((s.heap.push (k9 tp1 l1)).push (k9 tp2 l2)).push { cls:=.type "tuple",data:=.seq #[.ref n,.ref (n+1)] }).objs.size=n+3:=by rw[Heap.size_push,z1]
 have z3:((((s.heap.push (k9 tp1 l1)).push (k9 tp2 l2)).push { cls:=.type "tuple",data:=.seq #[.ref n,.ref (n+1)] }).push { cls:=.type "tuple",data:=.seq #[.none,.none] }).objs.size=n+4:=by rw[Heap.size_push,z2]
 have hz:EE s.heap tp1 tp2 l1 l2=((((s.heap.push (k9 tp1 l1)).push (k9 tp2 l2)).push { cls:=.type "tuple",data:=.seq #[.ref n,.ref (n+1)] }).push { cls:=.type "tuple",data:=.seq #[.none,.none] }).push { cls:=.type "zip",data:=.fields #[.none,.bool false,.bool false,.ref (n+2),.ref (n+3)] }:=by rw[<-hn]
 rw[hz];have e4:=v4 ((((s.heap.push (k9 tp1 l1)).push (k9 tp2 l2)).push { cls:=.type "tuple",data:=.seq #[.ref n,.ref (n+1)] }).push { cls:=.type "tuple",data:=.seq #[.none,.none] }) (o:={ cls:=.type "zip",data:=.fields #[.none,.bool false,.bool false,.ref (n+2),.ref (n+3)] }) rfl;have e3:=v4 (((s.heap.push (k9 tp1 l1)).push (k9 tp2 l2)).push { cls:=.type "tuple",data:=.seq #[.ref n,.ref (n+1)] }) (o:={ cls:=.type "tuple",data:=.seq #[.none,.none] }) rfl;have e2:=v4 ((s.heap.push (k9 tp1 l1)).push (k9 tp2 l2)) (o:={ cls:=.type "tuple",data:=.seq #[.ref n,.ref (n+1)] }) rfl;have e1:aO tp2 ((s.heap.push (k9 tp1 l1)).push (k9 tp2 l2)) (n+1) l2 0:=by
  rw[<-z0];cases tp2
  ·exact ⟨_,v4 _ rfl,rfl,rfl⟩
  ·exact ⟨_,v4 _ rfl,rfl,rfl⟩
 have e0:aO tp1 (s.heap.push (k9 tp1 l1)) n l1 0:=by
  rw[<-hn];cases tp1
  ·exact ⟨_,v4 _ rfl,rfl,rfl⟩
  ·exact ⟨_,v4 _ rfl,rfl,rfl⟩
 rw[z3] at e4;rw[z2] at e3;rw[z1] at e2;refine ⟨⟨_,e4,rfl⟩,q _ e4 (ul _ (ul _ e2)) (ul _ e3) (e0.to λo e=>ul _ (ul _ (ul _ (ul _ e)))) (e1.to λo e=>ul _ (ul _ (ul _ e))) (by rw[Heap.size_push,z3]) λc o e=>?_⟩;exact ul _ (ul _ (ul _ (ul _ (ul _ e))))
def yE {n:Addr}(a1:l1<n)(a2:l2<n):ZipApart (n+4) (n+2) (n+3) n (n+1) l1 l2:=by
 constructor<;>(intro e;have e':=(show @Eq Nat _ _ from e);have b1:=(show @LT.lt Nat _ l1 n from a1);have b2:=(show @LT.lt Nat _ l2 n from a2);omega)
def ya {m:Nat}{T:Addr}{Q:NB}(hz:bC s.heap z TI TO (rawInt T) f1)(q:∀ h',bC h' z TI TO .none f1->Heap.SameBut z s.heap h'->Q () { s with heap:=h' }):
  wpAny (model prog w) A (letOwnedTupleGo (.Tuple elts m pos) (.ref z) (.ref T)) Q E s:=by
 unfold letOwnedTupleGo;refine ad (wpAny_load hz ?_);show wpAny _ _ (if (["enumerate","zip","dict_itemiterator","dict_reverseitemiterator","odict_iterator","itertools.zip_longest","itertools.pairwise"].contains "zip"&&(#[rawInt T,f1,.bool false,.ref TI,.ref TO]:Array Value)[0]? ==some (rawInt T))=true then _ else _) Q E s;rw[if_pos (by simp)];exact ad (wpAny_rule (wpAny_setField_rec hz (by simp) λh' z' b'=>q h' z' b'))
def l8 {f0:Value}(hz:bC s.heap z TI TO f0 f1)(h:Q (.ref z) s):wpAny (model prog w) A (pyIter (.ref z)) Q E s:=by
 have hT:s.TypeIs (.ref z) "zip":=⟨_,hz,rfl⟩;refine wpAny_pyIter_slot hT F.slot_zip_iter (wpAny_call_entry F.slot_zip_iter hT F.entry_zip_iter ?_ (F.args_zip_iter_1 _));show wpAny _ _ (ret (.ref z)) _ _ s;exact am ⟨_,rfl,"zip",_,hT,F.slot_zip_next.lookup,h⟩
end
variable {X:Cx}{Y:ND}{U:St}{H:Hp}{s:Shared}
def Inv.DA {h':Heap}{t':Nat}{ch:List Addr}(I:Inv X Y U H s)(k:∀ b u,b ∉ ch->s.heap.get? b=some u->h'.get? b=some u) (hf:∀ b ∈ ch,i4 X Y H b):Inv X Y U H { s with heap:=h',toks:=t' }:=by
 have nch:∀ b u,H b=some u->b ∉ ch:=λb u e z=>by rw[(hf b z).1] at e;cases e
 refine I.step (g':=s.gens) (d':=s.drawn) (ch:=ch) (λb hb=>?_) (λb o _ _ hc e _=>k b o hc e) (λb o _ _ hc e _=>⟨o.slots,k b o hc e⟩) (λ_ _ _ _ n=>n)
  (λb o hc e=>⟨o,k b o hc e⟩) (λ_ _ e=>e) (λ_ _ _ e=>e) (λb ps e=>⟨#[],by rw[e];simp⟩) (λm hm=>?_) (λb u e=>?_) I.bare
 ·obtain ⟨_,f1,_,f3,f4,f5⟩:=hf b hb;exact ⟨f3,f1,f4,f5⟩
 ·obtain ⟨o,es,ep,ho,r⟩:=hm;exact ⟨o,es,ep,k _ o (λz=>(hf _ z).2.1 rfl) ho,r⟩
 ·refine (I.hok b u e).j3 (λc v hc q=>k c v ?_ q) (λ_ q=>q) λ_ _ q=>q
  rcases hc with rfl|hc
  ·exact nch _ _ e
  ·exact nch _ _ hc
abbrev Sq (K:W.Frag)(tp:Bool)(H:Hp)(c:Addr)(xs:List V):Prop:=match tp with
 |true=>aX K H c xs
 |false=>aR K H c xs
def Inv.sq {xs:List V}(I:Inv X Y U H s)(h:Sq X.K tp H c xs):∃ its:List Value,Vals xs its/\bA tp s.heap c its.toArray:=by
 cases tp
 ·obtain ⟨its,r,p,_⟩:=I.list h;exact ⟨its,r,p.isList⟩
 ·obtain ⟨its,r,p,_⟩:=I.tuple h;exact ⟨its,r,p⟩
def Inv.yX {xs ys:List V}(I:Inv X Y U H s)(h:Sq X.K tp H c xs)(h':Sq X.K tp H c ys):xs=ys:=by
 cases tp
 ·exact I.kQ h h'
 ·exact I.ja h h'
abbrev Ia (K:W.Frag)(tp1:Bool)(l1:Addr)(tp2:Bool)(l2:Addr):It:=
 ⟨λi H=>∃ xs ys x y,Sq K tp1 H l1 xs/\Sq K tp2 H l2 ys/\xs[i]? =some x/\ys[i]? =some y,
  λi H v H'=>∃ T x y,H T=none/\v=.ref T/\H'=upd H T (.tup [x,y])/\(∀ xs,Sq K tp1 H l1 xs->xs[i]? =some x)/\∀ ys,Sq K tp2 H l2 ys->ys[i]? =some y,
  λi H=>∃ xs ys,Sq K tp1 H l1 xs/\Sq K tp2 H l2 ys/\(xs.length<=i\/ys.length<=i)⟩
def yJ {P:Program}{w:World}{K:W.Frag}{tp1 tp2:Bool}{z TI TO i1 i2 l1 l2:Addr}(D:ZipApart z TI TO i1 i2 l1 l2):
  Turn P w K (.Tuple elts k pos) (Ia K tp1 l1 tp2 l2) [z,TI,TO,i1,i2] z (λi h=>(∃ f1,bC h z TI TO .none f1)/\IsPair h TI (.ref i1) (.ref i2)/\(∃ a b,IsPair h TO a b)/\aO tp1 h i1 l1 i/\aO tp2 h i2 l2 i) where
 mem:=by simp
 obj:=λi h st b hb=>by
  obtain ⟨⟨f1,hz⟩,hI,⟨a,b',hO⟩,g1,g2⟩:=st;have it:∀ {tp:Bool}{j c:Addr}{k:Nat},aO tp h j c k->∃ o,h.get? j=some o/\∀ v,o.data≠.cell v:=λ{tp j c k} g=>by
   cases tp
   ·obtain ⟨o,e,_,d⟩:=(show h.IsListIter j c k from g);exact ⟨o,e,λv z=>by rw[d] at z;cases z⟩
   ·obtain ⟨o,e,_,d⟩:=(show h.IsTupleIter j c k from g);exact ⟨o,e,λv z=>by rw[d] at z;cases z⟩
  simp only[nb,not_mem_nil,or_false] at hb;rcases hb with rfl|rfl|rfl|rfl|rfl
  ·exact ⟨_,hz,λv e=>by cases (show Data.fields _=Data.cell v from e)⟩
  ·exact ⟨_,hI,λv e=>by cases (show Data.seq _ _=Data.cell v from e)⟩
  ·exact ⟨_,hO,λv e=>by cases (show Data.seq _ _=Data.cell v from e)⟩
  ·exact it g1
  ·exact it g2
 keep:=λi h h' st k=>by
  obtain ⟨⟨f1,hz⟩,hI,⟨a,b',hO⟩,g1,g2⟩:=st;exact ⟨⟨f1,k z (by simp) _ hz⟩,k TI (by simp) _ hI,⟨a,b',k TO (by simp) _ hO⟩,g1.to λo e=>k i1 (by simp) o e,g2.to λo e=>k i2 (by simp) o e⟩
 item:=by
  intro X hP hw hK hc i Y s U H E I hf st hg;subst hP hw hK;obtain ⟨xs,ys,x,y,hq1,hq2,hx,hy⟩:=hg;obtain ⟨⟨f1,hz⟩,hI,⟨a,b,hO⟩,g1,g2⟩:=st;obtain ⟨is1,r1,t1⟩:=I.sq hq1;obtain ⟨is2,r2,t2⟩:=I.sq hq2;obtain ⟨u,hu,ru⟩:=r1.get hx;obtain ⟨v,hv,rv⟩:=r2.get hy;have n0:∀ {c o},s.heap.get? c=some o->c≠s.heap.objs.size:=λe=>pi (ut e)
  refine vh D hz hI hO g1 g2 t1 t2 (x:=u) (y:=v) (by simpa using hu) (by simpa using hv) λh1 z1 o1 j1 j2 hT hs1 k1=>?_
  have I1:Inv X Y U (upd H s.heap.objs.size (.tup [x,y])) { s with heap:=h1,toks:=s.toks }:=
   I.qo (ch:=[z,TI,TO,i1,i2]) (λb o hb q=>k1 b o (λe=>hb (by simp[e])) (λe=>hb (by simp[e])) (λe=>hb (by simp[e])) (λe=>hb (by simp[e])) q) hf (re _)
    ⟨fits (pc rfl),[u,v],.cons ru (.cons rv .nil),⟨_,hT,rfl,_,rfl⟩⟩
  refine ⟨_,rfl,ya z1 λh2 z2 b2=>?_⟩;obtain ⟨f0,f1',f2,f3,f4,f5⟩:=hf z (by simp);have I2:=I1.turned (h':=h2) (t':=s.toks) (it:=z) (λb o hb q=>(b2.2 b hb).trans q) (by rw[ah (n0 hz)];exact f0) f1' f3 f4 f5;refine ⟨.ref s.heap.objs.size,_,I2,rfl,⟨_,x,y,I.hok.fresh (re _),rfl,rfl,λzs hz'=>?_,λzs hz'=>?_⟩,⟨⟨_,z2⟩,?_,⟨_,_,b2.extBut _ _ D.TOz o1⟩,j1.to λo e=>b2.extBut _ o D.i1z e,j2.to λo e=>b2.extBut _ o D.i2z e⟩,λb hb=>?_⟩
  ·rw[I.yX hz' hq1];exact hx
  ·rw[I.yX hz' hq2];exact hy
  ·exact b2.extBut _ _ D.TIz (k1 _ _ D.TIz D.TITO D.TIi1 D.TIi2 hI)
  ·have hb':b≠s.heap.objs.size:=by
    simp only[nb,not_mem_nil,or_false] at hb;rcases hb with rfl|rfl|rfl|rfl|rfl
    ·exact n0 hz
    ·exact n0 hI
    ·exact n0 hO
    ·exact pi g1.lt
    ·exact pi g2.lt
   rw[ah hb'];exact (hf b hb).1
 done:=by
  intro X hP hw hK hc i Y s U H E I hf st hg;subst hP hw hK;obtain ⟨xs,ys,hq1,hq2,hx⟩:=hg;obtain ⟨⟨f1,hz⟩,hI,⟨a,b,hO⟩,g1,g2⟩:=st;obtain ⟨is1,r1,t1⟩:=I.sq hq1;obtain ⟨is2,r2,t2⟩:=I.sq hq2;have e1:=r1.length;have e2:=r2.length;refine Aa (I.ok.hd hc) D hz hI hO g1 g2 t1 t2 (by simp;omega) λh' k'=>⟨rfl,?_⟩
  exact I.DA (t':=s.toks) (ch:=[z,TI,TO,i1,i2]) (λb o hb q=>k' b o (λe=>hb (by simp[e])) (λe=>hb (by simp[e])) (λe=>hb (by simp[e])) (λe=>hb (by simp[e])) q) hf
 self:=λ_ _ _ _ _ st h=>by
  obtain ⟨⟨f1,hz⟩,_⟩:=st;exact l8 hz h
def zV:bootBuiltins "zip"=some (.type "zip"):=by decide+kernel
abbrev Ju (K:W.Frag)(v u:V)(H:Hp)(R:It->Hp->Prop):Prop:=∃ tp1 l1 tp2 l2,v=.ref l1/\u=.ref l2/\(∃ xs,Sq K tp1 H l1 xs)/\(∃ ys,Sq K tp2 H l2 ys)/\R (Ia K tp1 l1 tp2 l2) H
abbrev Lf (K:W.Frag)(ta:TA):TI:=λU H R=>ta U H λvs H1=>∃ v u,vs=[v,u]/\Ju K v u H1 R
variable {ta:TA}{p:Pos}
def Fh {a b:Expr}{pos':Pos}(hg:Gl X "zip") (hm:X.mg "zip"=none) (ha:PA X [a,b] ta) (hs:bm [a,b] X.env=(false,eval a X.env)::bm [b] X.env:=by rfl) (hpl:(backTo pos (bm [b] X.env)).any (·.1)=false:=by rfl):
  PI X (.Tuple elts k pos') (.Call (.Name "zip" p) [a,b] [] pos) (Lf X.K ta):=by
 intro Y s U H R I h;refine Call_ (cS I hg hm zV (PyProof.Rows.callWith_type1 (aC (ha pos Y s U H _ I h) λus s1 ⟨vs,H1,I1,r1,q1⟩=>?_) hs hpl));obtain ⟨v,u,e,tp1,l1,tp2,l2,e1,e2,⟨xs,q1⟩,⟨ys,q2⟩,q⟩:=q1;subst e e1 e2;cases r1 with
 |cons r rr=>
  cases rr with
  |cons r' rr'=>
   cases rr';cases r;cases r';obtain ⟨is1,s1',t1⟩:=I1.sq q1;obtain ⟨is2,s2',t2⟩:=I1.sq q2;refine rJ t1 t2 λh' hz hI hO g1 g2 hsz hk=>?_
   refine l8 hz ?_;refine ⟨s1.heap.objs.size+4,[s1.heap.objs.size+4,s1.heap.objs.size+2,s1.heap.objs.size+3,s1.heap.objs.size,s1.heap.objs.size+1],_,_,H1,rfl,I1.kept (t':=s1.toks) hk,yJ (yE t1.lt t2.lt),⟨⟨_,hz⟩,hI,⟨_,_,hO⟩,g1,g2⟩,λb hb=>?_,q⟩;have hb':s1.heap.objs.size<=b:=by
    simp only[nb,not_mem_nil,or_false] at hb;rcases hb with rfl|rfl|rfl|rfl|rfl<;>first|exact re _|exact Nat.le_add_right _ _
   exact I1.yO hb' (I1.hok.fresh hb')
def pk:entryFor table "zip.__getattribute__"=some Builtin.«object.__getattribute__»:=entryFor_alias (id':="object.__getattribute__") (by kernel_rfl) (by first|rfl|decide+kernel) (by decide+kernel) (by kernel_rfl)
def qx:typeLookup (.type "zip") "keys"=pure none:=by rw[typeLookup_type,builtinLookup_eq_fast];kernel_rfl
def v5:typeLookup (.type "zip") "__getattr__"=pure none:=by rw[typeLookup_type,builtinLookup_eq_fast];kernel_rfl
def xi (a:Addr)(vs:Array Value)(u:Tok):Meets (Builtin.«object.__getattribute__» ⟨[.ref a,.str "keys" u],[]⟩) (λA R s=>s.heap.get? a=some { cls:=.type "zip",dict:=none,data:=.fields vs,slots:=#[] }/\raisesAttr (.ref a) "keys" A R s):=
 Meets.of_wp λprog w A R s ⟨hx,hs⟩=>by
  obtain ⟨hp,g,d,tk,os⟩:=s;have hT:(⟨hp,g,d,tk,os⟩:Shared).TypeIs (.ref a) "zip":=⟨_,hx,rfl⟩;have f4:=qx;unfold Builtin.«object.__getattribute__»
  repeat (any_goals first|assumption|wp_step)
  exact wpAny_raiseAttrError hs.1 hs.2 (attrMsg_fits (by decide+kernel) (by rw[sizeLine_eq];decide+kernel))
section
variable {prog:Program}{w:World}{A:Around}{E:NC}{s:Shared}{a:Addr}{vs:Array Value}
def zE {Q:NA}(hA:A.handled=none)(hx:s.heap.get? a=some { cls:=.type "zip",dict:=none,data:=.fields vs,slots:=#[] })
  (q:∀ h' t',(∀ c u,s.heap.get? c=some u->h'.get? c=some u)->Q none { s with heap:=h',toks:=t' }):wpAny (model prog w) A (getAttr? (.ref a) "keys") Q E s:=by
 obtain ⟨hp,g,d,tk,os⟩:=s;have hT:∀ t',(⟨hp,g,d,t',os⟩:Shared).TypeIs (.ref a) "zip":=λ_=>⟨_,hx,rfl⟩
 have f1:=sub_AttributeError;have f3:=PySem.F.slot_zip_getattribute.lookup;have f4:=PySem.F.slot_zip_getattribute.bind (.ref a);have f5:=v5;unfold getAttr? getAttrBy? getAttrBy
 repeat (any_goals first|assumption|((with_reducible show wpAny _ _ (call (Value.builtin "zip.__getattribute__") _ _) _ _ _);refine call_meets PySem.F.slot_zip_getattribute (hT _) pk (PySem.F.args_zip_getattribute_2 _ _) (xi a vs _) ⟨hx,hA,λh' tk' e he=>?_⟩)|wp_step)
 obtain ⟨t1,u1,e1⟩:=he.there;show wpAny _ _ (getattributeRaised _ _ _ _ _ _ _) _ _ _;unfold getattributeRaised
 repeat (any_goals first|assumption|wp_step)
 exact q _ _ he.keeps
end
structure Zs (h:Heap) (tp1 tp2:Bool) (z TI TO i1 i2 l1 l2:Addr) (i:Nat) (xs ys:Array Value):Prop where
 zo:(∃ f1,bC h z TI TO .none f1)\/∃ (T:Int) (fb:Bool) (o:Obj),bC h z TI TO (rawInt T) (.bool fb)/\h.get? T.toNat=some o/\T.toNat≠z/\T.toNat≠TO/\T.toNat≠i1/\T.toNat≠i2
 hI:IsPair h TI (.ref i1) (.ref i2)
 hO:∃ a b,IsPair h TO a b
 g1:aO tp1 h i1 l1 i
 g2:aO tp2 h i2 l2 i
 t1:bA tp1 h l1 xs
 t2:bA tp2 h l2 ys
variable {d:Addr}
section
variable {prog:Program}{w:World}{A:Around}{E:NC}{s:Shared}{tp1 tp2:Bool}{z TI TO i1 i2 l1 l2:Addr}{i:Nat}{xs ys:Array Value}{x y:Value}
def Zs.next {Q:NA}(D:ZipApart z TI TO i1 i2 l1 l2)(Z:Zs s.heap tp1 tp2 z TI TO i1 i2 l1 l2 i xs ys)(hx:xs[i]? =some x)(hy:ys[i]? =some y)
  (q:∀ h',Zs h' tp1 tp2 z TI TO i1 i2 l1 l2 (i+1) xs ys->IsPair h' s.heap.objs.size x y->h'.objs.size=s.heap.objs.size+1->(∀ c o,c≠z->c≠TO->c≠i1->c≠i2->s.heap.get? c=some o->h'.get? c=some o)->Q (some (.ref s.heap.objs.size)) { s with heap:=h' }):
  wpAny (model prog w) A (pyNext (.ref z)) Q E s:=by
 obtain ⟨zo,hI,⟨a,b,hO⟩,g1,g2,t1,t2⟩:=Z;have n0:∀ {c o},s.heap.get? c=some o->s.heap.objs.size≠c:=λe=>Nat.ne_of_gt (ut e)
 rcases zo with ⟨f1,hz⟩|⟨T,fb,o,hz,hT,n1,n2,n3,n4⟩
 ·refine vh D hz hI hO g1 g2 t1 t2 hx hy λh' z1 o1 j1 j2 p1 sz k=>?_
  refine q h' ⟨.inr ⟨s.heap.objs.size,false,_,z1,p1,n0 hz,n0 hO,Nat.ne_of_gt g1.lt,Nat.ne_of_gt g2.lt⟩,k _ _ D.TIz D.TITO D.TIi1 D.TIi2 hI,⟨_,_,o1⟩,j1,j2,t1.to λo e=>k _ o D.l1z D.l1TO D.l1i1 D.l1i2 e,t2.to λo e=>k _ o D.l2z D.l2TO D.l2i1 D.l2i2 e⟩ p1 sz k
 ·refine Cb D hz hT hI g1 g2 t1 t2 hx hy λh' z1 j1 j2 p1 sz k=>?_
  exact q h' ⟨.inr ⟨T,true,o,z1,k _ _ n1 n3 n4 hT,n1,n2,n3,n4⟩,k _ _ D.TIz D.TIi1 D.TIi2 hI,⟨a,b,k _ _ D.TOz D.TOi1 D.TOi2 hO⟩,j1,j2,t1.to λo e=>k _ o D.l1z D.l1i1 D.l1i2 e,t2.to λo e=>k _ o D.l2z D.l2i1 D.l2i2 e⟩ p1 sz λc o m1 _ m3 m4 e=>k c o m1 m3 m4 e
def Zs.stop {Q:NA}(hh:A.handled=none)(D:ZipApart z TI TO i1 i2 l1 l2)(Z:Zs s.heap tp1 tp2 z TI TO i1 i2 l1 l2 i xs ys)(hx:xs[i]? =none\/ys[i]? =none)
  (q:∀ h',(∀ c o,c≠z->c≠TO->c≠i1->c≠i2->s.heap.get? c=some o->h'.get? c=some o)->Q none { s with heap:=h' }):wpAny (model prog w) A (pyNext (.ref z)) Q E s:=by
 obtain ⟨zo,hI,⟨a,b,hO⟩,g1,g2,t1,t2⟩:=Z;rcases zo with ⟨f1,hz⟩|⟨T,fb,o,hz,hT,_⟩
 ·exact Aa hh D hz hI hO g1 g2 t1 t2 hx q
 ·exact Av hh D hz hT hI g1 g2 t1 t2 hx λh' k=>q h' λc o m1 _ m3 m4 e=>k c o m1 m3 m4 e
def Zs.keep {h h':Heap}(Z:Zs h tp1 tp2 z TI TO i1 i2 l1 l2 i xs ys)(k:∀ c o,h.get? c=some o->c≠d->h'.get? c=some o) (n:d≠z/\d≠TI/\d≠TO/\d≠i1/\d≠i2/\d≠l1/\d≠l2) (hd:∃ o,h'.get? d=some o):Zs h' tp1 tp2 z TI TO i1 i2 l1 l2 i xs ys:=by
 obtain ⟨zo,hI,⟨a,b,hO⟩,g1,g2,t1,t2⟩:=Z;obtain ⟨m1,m2,m3,m4,m5,m6,m7⟩:=n;refine ⟨?_,k _ _ hI m2.symm,⟨a,b,k _ _ hO m3.symm⟩,g1.to λo e=>k _ o e m4.symm,g2.to λo e=>k _ o e m5.symm,t1.to λo e=>k _ o e m6.symm,t2.to λo e=>k _ o e m7.symm⟩;rcases zo with ⟨f1,hz⟩|⟨T,fb,o,hz,hT,r⟩
 ·exact .inl ⟨f1,k _ _ hz m1.symm⟩
 ·by_cases e:T.toNat=d
  ·obtain ⟨o',ho⟩:=hd;exact .inr ⟨T,fb,o',k _ _ hz m1.symm,by rw[e];exact ho,r⟩
  ·exact .inr ⟨T,fb,o,k _ _ hz m1.symm,k _ _ hT e,r⟩
end
def fK:plainId "dict.update.loop"=true:=by decide+kernel
def nh:entryFor table "dict.update.loop"=some Builtin.«dict.update.loop»:=entryFor_of_tree (by kernel_rfl)
section
variable {prog:Program}{w:World}{A:Around}{tp1 tp2:Bool}{z TI TO i1 i2 l1 l2 d:Addr}{xs ys:Array Value}{Ky:Type} [DecidableEq Ky] {knd:KeyKind prog w Ky}
def Bc (hh:A.handled=none)(D:ZipApart z TI TO i1 i2 l1 l2)(nd:d≠z/\d≠TI/\d≠TO/\d≠i1/\d≠i2/\d≠l1/\d≠l2)(ks:List Ky)(hk:∀ (j:Nat) x,xs[j]? =some x->∃ k,ks[j]? =some k/\knd.is k x=true) (hz:xs.size=ys.size):
  ∀ (m i:Nat),xs.size-i=m->i<=xs.size->∀ (s:Shared) (kvs:List (Ky×Value)) (R:Result->Shared->Prop),Zs s.heap tp1 tp2 z TI TO i1 i2 l1 l2 i xs ys->s.heap.DictOf knd d kvs->kvs.length+m<=bn->
  (∀ h' t',h'.DictOf knd d (merged kvs ((ks.zip ys.toList).drop i))->(∀ c o,c≠z->c≠TO->c≠i1->c≠i2->c≠d->s.heap.get? c=some o->h'.get? c=some o)->R (.ok (.ret .none)) { s with heap:=h',toks:=t' })->
  wpAny (model prog w) A.in1 (Builtin.«dict.update.loop» ⟨[.ref d,.ref z,rawInt i,.none],[]⟩) (λfin s'=>match fin with| .done f=>R (.ok f) s'| .again c'=>c'.quiet=true/\codeAny (model prog w) A c' R s') (λe s'=>R (.error e) s') s:=by
 intro m
 induction m with
 |zero=>
  intro i hm hi s kvs R Z dd hl q;show wpAny _ _ (pyNext (.ref z) >>= _) _ _ _;refine ad (Z.stop (show A.in1.handled=none from hh) D (.inl (by simp;omega)) λh' k=>?_);show wpAny _ _ (Builtin.Dict.addKeywords d [] >>= _) _ _ _;refine ad (am (am ?_));have e:(ks.zip ys.toList).drop i=[]:=by
   rw[List.drop_eq_nil_iff,length_zip];simp
   omega
  rw[e] at q;refine q h' s.toks ?_ λc o n1 n2 n3 n4 _ e=>k c o n1 n2 n3 n4 e
  obtain ⟨o,es,ep,ho,r⟩:=dd;exact ⟨o,es,ep,k _ _ nd.1 nd.2.2.1 nd.2.2.2.1 nd.2.2.2.2.1 ho,r⟩
 |succ m ih=>
  intro i hm hi s kvs R Z dd hl q;have h1:i<xs.size:=by omega
  have h2:i<ys.size:=by omega
  have e1:xs[i]? =some xs[i]:=Array.getElem?_eq_getElem h1;have e2:ys[i]? =some ys[i]:=Array.getElem?_eq_getElem h2;obtain ⟨k,hk1,hk2⟩:=hk i _ e1;show wpAny _ _ (pyNext (.ref z) >>= _) _ _ _;refine ad (Z.next D e1 e2 λh' Z' p sz fr=>?_);show wpAny _ _ (holding [_] _ >>= _) _ _ _;refine ad (bd ?_);refine ad ?_;have hT:({ s with heap:=h' }:Shared).TypeIs (.ref s.heap.objs.size) "tuple":=⟨_,p,rfl⟩;refine wpAny_tryCatch ?_;unfold Builtin.Dict.pairItems;refine ad (wpAny_typeOf hT ?_);rw[if_pos (by decide)];refine ad (wpAny_seqItems p rfl (am ?_));show wpAny _ _ (holding [_,_] (dictSet d xs[i] ys[i])) _ _ _;refine bd ?_;have dd':h'.DictOf knd d kvs:=by
   obtain ⟨o,es,ep,ho,r⟩:=dd;exact ⟨o,es,ep,fr _ _ nd.1 nd.2.2.1 nd.2.2.2.1 nd.2.2.2.2.1 ho,r⟩
  refine wpAny_dictSet_pairs (s:={ s with heap:=h' }) (hsz:=by omega) hk2 dd' λh2' d2 b2=>?_
  show wpAny _ _ (pure (Fin.again (.builtin "dict.update.loop" ⟨[.ref d,.ref z,rawInt ((i:Int)+1),.none],[]⟩))) _ _ _;refine am ⟨plainId_quiet fK _,codeAny_builtin nh ?_⟩;rw[Around.under_plainId fK _,show ((i:Int)+1)=((i+1:Nat):Int) by push_cast;rfl];have hd:∃ o,h2'.get? d=some o:=let ⟨o,_,_,ho,_⟩:=d2;⟨o,ho⟩;refine ih (i+1) nofun nofun { s with heap:=h2',toks:=s.toks+1 } (stored kvs k ys[i]) R (Z'.keep (λc o e n=>b2.extBut _ _ n e) nd hd) d2 ?_ λh3 t3 d3 f3=>?_
  ·have:(stored kvs k ys[i]).length<=kvs.length+1:=by
    unfold stored
    split
    ·rw[ce];omega
    ·rw[ci];simp
   omega
  ·have ed:(ks.zip ys.toList).drop i=(k,ys[i])::(ks.zip ys.toList).drop (i+1):=by
    have:(ks.zip ys.toList)[i]? =some (k,ys[i]):=by
     rw[List.getElem?_zip_eq_some];exact ⟨hk1,by simpa using h2⟩
    obtain ⟨hlt,he⟩:=tz.mp this;rw[List.drop_eq_getElem_cons hlt,he]
   refine q h3 t3 ?_ λc o n1 n2 n3 n4 n5 e=>f3 c o n1 n2 n3 n4 n5 (b2.extBut _ _ n5 (fr c o n1 n2 n3 n4 e))
   rw[ed];exact d3
def qa {E:NC}(hh:A.handled=none)(D:ZipApart z TI TO i1 i2 l1 l2)(ks:List Ky)(hk:∀ (j:Nat) x,xs[j]? =some x->∃ k,ks[j]? =some k/\knd.is k x=true) (hz:xs.size=ys.size) (hn:ks.Nodup) (hkl:ks.length=xs.size) (hsz:xs.size<=bn)
  (Z:Zs s.heap tp1 tp2 z TI TO i1 i2 l1 l2 0 xs ys) (hzo:∃ f1,bC s.heap z TI TO .none f1)
  (q:∀ h' t',h'.DictOf knd s.heap.objs.size (ks.zip ys.toList)->(∀ c o,c≠z->c≠TO->c≠i1->c≠i2->s.heap.get? c=some o->h'.get? c=some o)->Q (.ref s.heap.objs.size) { s with heap:=h',toks:=t' }):
  wpAny (model prog w) A (call (.type "dict") [.ref z]) Q E s:=by
 refine callType_codes (Q₁:=λobj s1=>obj=.ref s.heap.objs.size/\s1={ s with heap:=s.heap.push { cls:=.type "dict",data:=.dict #[] } }) PySem.F.kt_called_dict (PySem.F.kt_typeCall_dict_1 _) PySem.F.entry_dict_init (kt_code_dict_new _ ⟨rfl,rfl⟩) ?_;rintro obj s1 ⟨rfl,rfl⟩;have dn:(s.heap.push { cls:=.type "dict",data:=.dict #[] }).DictOf knd s.heap.objs.size []:=Heap.DictOf.new s.heap;refine ⟨dn.typeIs,PySem.F.args_dict_init_2 _ _,?_⟩;unfold Builtin.«dict.__init__»;refine ad ?_;unfold Builtin.Dict.selfAndRest;refine ad (wpAny_notOrdered_dict dn.typeIs ?_);show wpAny _ _ (pure (s.heap.objs.size,[Value.ref z])) _ _ _;refine am ?_;show wpAny _ _ (Builtin.Dict.updateFrom "dict.__init__" s.heap.objs.size (.ref z) [] .none) _ _ _;unfold Builtin.Dict.updateFrom;obtain ⟨f1,hz0⟩:=hzo;have hz1:(s.heap.push { cls:=.type "dict",data:=.dict #[] }).get? z=some _:=ul _ hz0;have hT:({ s with heap:=s.heap.push { cls:=.type "dict",data:=.dict #[] } }:Shared).TypeIs (.ref z) "zip":=⟨_,hz1,rfl⟩;refine ad (wpAny_typeOf hT ?_);rw[if_pos (by decide)];refine ad (zE hh hz1 λh1 t1 k1=>?_);rw[if_pos (show (none:Option Value).isNone=true from rfl)];refine ad (wpAny_rule ?_);refine ad (l8 (s:={ s with heap:=h1,toks:=t1 }) (k1 _ _ hz1) ?_);have n0:∀ {c o},s.heap.get? c=some o->s.heap.objs.size≠c:=λe=>Nat.ne_of_gt (ut e)
 have nd:s.heap.objs.size≠z/\s.heap.objs.size≠TI/\s.heap.objs.size≠TO/\s.heap.objs.size≠i1/\s.heap.objs.size≠i2/\s.heap.objs.size≠l1/\s.heap.objs.size≠l2:=by
  obtain ⟨a,b,hO⟩:=Z.hO;exact ⟨n0 hz0,n0 Z.hI,n0 hO,Nat.ne_of_gt Z.g1.lt,Nat.ne_of_gt Z.g2.lt,Nat.ne_of_gt Z.t1.lt,Nat.ne_of_gt Z.t2.lt⟩
 have kk:∀ c o,s.heap.get? c=some o->h1.get? c=some o:=λc o e=>k1 _ _ (ul _ e)
 have d1:h1.DictOf knd s.heap.objs.size []:=by
  obtain ⟨o,es,ep,ho,r⟩:=dn;exact ⟨o,es,ep,k1 _ _ ho,r⟩
 refine am ⟨plainId_quiet fK _,codeAny_builtin nh ?_⟩;rw[Around.under_plainId fK _];refine Bc (A:=A.in1) (d:=s.heap.objs.size) hh D nd ks hk hz _ 0 rfl (Nat.zero_le _) { s with heap:=h1,toks:=t1 } [] _ (Z.keep (λc o e _=>kk c o e) nd (let ⟨o,_,_,ho,_⟩:=d1;⟨o,ho⟩)) d1 (by simpa using hsz) λh' t' d' f'=>?_
 rw[drop_zero,merged_nil_of_nodup _ (by rw[List.map_fst_zip (by simp;omega)];exact hn)] at d';exact ⟨rfl,q h' t' d' λc o n1 n2 n3 n4 e=>f' c o n1 n2 n3 n4 (n0 e).symm (kk c o e)⟩
end
def zX:bootBuiltins "dict"=some (.type "dict"):=by decide+kernel
def EU {P:Program}{w:World}:∀ {ks:List Key}{us:List Value},Vals (ks.map kV) us->∀ (j:Nat) u,us[j]? =some u->∃ k,ks[j]? =some k/\(ay P w).is k u=true
 | [],_,.nil,j,u,h=>by simp at h
 |k::ks,_,.cons r rs,0,u,h=>by
  simp at h;subst h;exact ⟨k,rfl,rL r⟩
 |k::ks,_,.cons r rs,j+1,u,h=>by
  simp at h;obtain ⟨k',e1,e2⟩:=EU (P:=P) (w:=w) rs j u h;exact ⟨k',by simpa using e1,e2⟩
def EG:∀ {ks:List Key}{ys:List V}{us:List Value},Vals ys us->KV (ks.zip ys) (ks.zip us)
 | [],_,_,_=>by simp[List.zip];exact .nil
 |_::_,_,_,.nil=>.nil
 |k::ks,_,_,.cons r rs=>.cons ⟨rfl,r⟩ (EG rs)
abbrev MB (K:W.Frag)(v u:V)(H:Hp)(Q:VK):Prop:=∃ tp1 l1 tp2 l2,∃ (ks:List Key) (ys:List V),v=.ref l1/\u=.ref l2/\Sq K tp1 H l1 (ks.map kV)/\Sq K tp2 H l2 ys/\ks.Nodup/\ks.length=ys.length/\ks.length<=1000/\∀ p,H p=none->Q (.ref p) (upd H p (.dK (ks.zip ys)))
abbrev MS (K:W.Frag)(ta:TA):TE:=λU H Q=>ta U H λvs H1=>∃ v u,vs=[v,u]/\MB K v u H1 Q
def DN {a b:Expr}{p2 pos2:Pos}(hc:X.calm=true)(hg:Gl X "dict") (hm:X.mg "dict"=none) (hg2:Gl X "zip") (hm2:X.mg "zip"=none) (ha:PA X [a,b] ta)
  (hs:bm [a,b] X.env=(false,eval a X.env)::bm [b] X.env:=by rfl) (hpl:(backTo pos2 (bm [b] X.env)).any (·.1)=false:=by rfl):
  PE X (.Call (.Name "dict" p) [.Call (.Name "zip" p2) [a,b] [] pos2] [] pos) (MS X.K ta):=by
 intro Y s U H Q I h;have h1:bm [.Call (.Name "zip" p2) [a,b] [] pos2] X.env=[(false,eval (.Call (.Name "zip" p2) [a,b] [] pos2) X.env)]:=rfl;refine Call_ (cS I hg hm zX (PyProof.Rows.callWith_type1 ?_ h1 rfl));rw[h1];show wpAny _ _ (spliced ((false,eval (.Call (.Name "zip" p2) [a,b] [] pos2) X.env)::backTo pos [])) _ _ _;refine Calls.spliced_cons ?_;refine Call_ (cS I hg2 hm2 zV (PyProof.Rows.callWith_type1 (aC (ha pos2 Y s U H _ I h) λus s1 ⟨vs,H1,I1,r1,q1⟩=>?_) hs hpl));obtain ⟨v,u,e,tp1,l1,tp2,l2,ks,ys,e1,e2,q1,q2,kn,kl,kz,q⟩:=q1;subst e e1 e2;cases r1 with
 |cons r rr=>
  cases rr with
  |cons r' rr'=>
   cases rr';cases r;cases r';obtain ⟨is1,v1,t1⟩:=I1.sq q1;obtain ⟨is2,v2,t2⟩:=I1.sq q2;refine rJ t1 t2 λh' hz hI hO g1 g2 hsz hk=>?_
   refine Calls.spliced_nil ?_;have n1:is1.length=ks.length:=by rw[<-v1.length,ce]
   have n2:is2.length=ks.length:=by rw[<-v2.length,kl]
   refine qa (s:={ s1 with heap:=h' }) (knd:=ay X.prog X.w) (I1.ok.hd hc) (yE t1.lt t2.lt) ks (λj x hx=>EU v1 j x (by simpa using hx)) (by simp;omega) kn (by simp;omega) (by simp;rw[n1];exact fits kz)
    ⟨.inl ⟨_,hz⟩,hI,⟨_,_,hO⟩,g1,g2,t1.to λo e=>hk _ o e,t2.to λo e=>hk _ o e⟩ ⟨_,hz⟩ λh2 t2' d2 f2=>?_
   have lt0:∀ {c o},s1.heap.get? c=some o->c<s1.heap.objs.size:=λe=>ut e
   have hfree:H1 h'.objs.size=none:=I1.hok.fresh (by rw[hsz];exact Nat.le_add_right _ _);refine ⟨.ref h'.objs.size,_,I1.laid (a:=h'.objs.size) (o:=.dK (ks.zip ys)) (t':=t2') (λc o e=>?_) (by rw[hsz];exact Nat.le_add_right _ _) ⟨?_,?_,_,EG v2,by simpa using d2⟩,rfl,q _ hfree⟩
   ·have hl:=lt0 e;refine f2 c o (pi (ol hl (Nat.le_add_right _ _))) (pi (ol hl (Nat.le_add_right _ _))) (pi hl) (pi (ol hl (Nat.le_add_right _ _))) (hk c o e)
   ·rw[length_zip];exact fits (Nat.le_trans (Nat.min_le_left _ _) kz)
   ·exact beq_eq_false_iff_ne.mpr (Nat.ne_of_gt (ol I1.big (by rw[hsz];exact Nat.le_add_right _ _)))
section
variable {X:Cx}{Y:ND}{U:St}{H:Hp}{s:Shared}{a:Addr}{kvs:List (Key×V)}{A:Around}{E:NC}
def yK (I:Inv X Y U H s)(e:Rd H a (.dK kvs))(h:∀ p s',H p=none->Inv X Y U (upd H p (.dK kvs)) s'->Q (.ref p) s'):wpAny (model X.prog X.w) A (call (.type "dict") [.ref a]) Q E s:=by
 obtain ⟨z,hd,vs,rel,dd⟩:=lN I.hok e;refine kt_call_dict hd dd (by rw[<-rel.length];exact z) λh' dd' hs=>?_
 refine h _ _ (I.hok.fresh (re _)) (I.laid (a:=s.heap.objs.size) (o:=.dK kvs) (t':=s.toks) (λb q hq=>?_) (re _) (tX z (beq_eq_false_iff_ne.mpr (Ne.symm (pi I.big))) rel dd'));exact (hs.2 b (pi (ut hq))).trans (ul _ hq)
end
section
variable {X:Cx}{Y:ND}{U:St}{H:Hp}{s:Shared}
end
def J6 (d:Addr)(hd:(d ==sysModules)=false)(dd:Option Addr)(ep:Nat)(sl:Array (Option Value)):Meets (Builtin.«dict.__eq__» ⟨[.ref d,.ref d],[]⟩) (λ_ R s=>s.heap.get? d=some ⟨.type "dict",dd,.dict #[] ep,sl⟩/\R (.ok (.ret (.bool true))) s):=by
 intro prog w A R s hs;obtain ⟨h,g,dp,tt,os⟩:=s;obtain ⟨ho,q⟩:=hs;have hT:(⟨h,g,dp,tt,os⟩:Shared).TypeIs (.ref d) "dict":=⟨_,ho,rfl⟩;unfold Builtin.«dict.__eq__»
 k_delta "equality"
 unfold Builtin.Dict.dictSlotArgs;refine ad (ad (wpAny_notOrdered_dict hT ?_));show wpAny _ _ (pure (Value.ref d,[Value.ref d]) >>= _) _ _ _;refine ad (am (am ?_));have hi:=PySem.F.kt_sub_dict;show wpAny _ _ (isInstance (.ref d) (.type "dict") >>= _) _ _ _;unfold Builtin.Dict.samePairs;simp only[Std.Legacy.Range.forIn_eq_forIn_range']
 repeat (any_goals first|assumption|wp_step)
variable {A:Around}{dd:Option Addr}{sl:Array (Option Value)}
def JB (hd:(d ==sysModules)=false){ep:Nat}(ho:s.heap.get? d=some ⟨.type "dict",dd,.dict #[] ep,sl⟩) (hu:A.units<cLine):SeqAt.RcAt A s (.ref d) (.ref d) true:=λprog w E Q h=>
 richCompare_meets_room (op:=.Eq) ⟨_,ho,rfl⟩ ⟨_,ho,rfl⟩ PySem.F.slot_dict_eq PySem.F.entry_dict_eq (PySem.F.args_dict_eq_2 _ _) (J6 d hd dd ep sl) ⟨ho,show Value.bool true≠Value.notImplemented/\Q (.bool true) s from ⟨(λx=>nomatch x),h⟩⟩ hu
abbrev yM (K:W.Frag)(H:Hp)(a:Addr):Prop:=(∃ xs,aR K H a xs)\/(∃ xs,aX K H a xs)\/H a=some (.dK [])
def DV {a:Addr}(I:Inv X Y U H s)(h:yM X.K H a)(hu:A.units+2<cLine):SeqAt.RcAt A s (.ref a) (.ref a) true:=by
 rcases h with ⟨xs,h⟩|⟨xs,h⟩|h
 ·obtain ⟨ia,ra,pa,_⟩:=I.list h;have rc:=SeqAt.RcAt.lists (A:=A) (e:=λ_=>true) pa.isList pa.isList rfl nofun λj h1 h2=>SeqAt.EqAt.same _
  have e:(List.range ia.toArray.size).all (λ_=>true)=true:=by simp
  rwa [e] at rc
 ·obtain ⟨ia,ra,pa,_⟩:=I.tuple h;have rc:=SeqAt.RcAt.tuples (A:=A) (e:=λ_=>true) (show s.heap.IsTuple a ia.toArray from pa) (show s.heap.IsTuple a ia.toArray from pa) nofun λj h1 h2=>SeqAt.EqAt.same _
  have e:((List.range (min ia.toArray.size ia.toArray.size)).all (λ_=>true)&&ia.toArray.size ==ia.toArray.size)=true:=by simp
  rwa [e] at rc
 ·obtain ⟨z,hd,vs,rel,dd⟩:=lN I.hok (.inl h);cases rel;obtain ⟨⟨c,d,da,sl⟩,es,ep,ho,hx,he,_,hp,_⟩:=dd;have e0:es=#[]:=by
   cases hp':es.toList with
   |nil=>exact Array.toList_eq_nil_iff.mp hp'
   |cons a b=>rw[hp'] at hp;cases hp
  subst e0;obtain rfl:da=.dict #[] ep:=he;obtain ⟨rfl,_⟩:=hx;exact JB hd ho nofun
section
variable {prog:Program}{w:World}{A:Around}{E:NC}{s:Shared}{T:String}{r d:Addr}{n:Nat}{P:Nat->Value->Prop}{OK:Heap->Prop}
def qD {Q:List Value->Shared->Prop}(K:KdlSrc prog w T r d n P OK)(hh:A.handled=none)(hok:OK s.heap)(hn:n<=bn)
  (hQ:∀ h' tk (acc:Array Value),(∀ b o,s.heap.get? b=some o->h'.get? b=some o)->ItemsOf P acc n->Q acc.toList { s with heap:=h',toks:=tk }):wpAny (model prog w) A (collect (.ref r)) Q E s:=by
 have hlt:=K.there _ hok;unfold collect;refine ad (wpAny_runValue (codeAny_builtin PySem.F.entry_proto_collect ?_));rw[Around.under_plainId PySem.F.plain_proto_collect _];show wpAny _ A.in1 (newList [] >>= λz=>again (.builtin "list.__iadd__" ⟨[z,.ref r],[]⟩)) _ _ s;refine ad (wpAny_newObj_type (am ⟨plainId_quiet PySem.F.plain_list_iadd _,codeAny_builtin PySem.F.entry_list_iadd ?_⟩));rw[Around.under_plainId PySem.F.plain_list_iadd _];show wpAny _ A.in1 (Builtin.List.listExtendWith (.ref s.heap.objs.size) (.ref r) (.ref s.heap.objs.size)) _ _ _;have hS:(s.heap.push { cls:=.type "list",data:=.seq ([]:List Value).toArray }).get? s.heap.objs.size=some { cls:=.type "list",data:=.seq #[] 0 }:=v4 s.heap rfl;have fin:∀ (x:Result) (s':Shared),(x=.ok (.ret (.ref s.heap.objs.size))/\∃ h' tk acc c',s'={ s with heap:=h',toks:=tk }/\(∀ b o,s.heap.get? b=some o->h'.get? b=some o)/\h'.get? s.heap.objs.size=some { cls:=.type "list",dict:=none,data:=.seq acc c',slots:=#[] }/\ItemsOf P acc n)->
   wpAny (model prog w) A (match Value.ref s.heap.objs.size with
    |Value.ref a=>do
     match (<-load a).data with
      |Data.seq xs _=>pure xs.toList
      |_=>unsupported "internal:collect"
    |_=>unsupported "internal:collect") Q E s':=λx s' ⟨_,h',tk,acc,c',e,hk,ho,hi⟩=>by
  subst e;show wpAny _ A (load s.heap.objs.size >>= _) _ _ _;exact ad (wpAny_load ho (am (hQ h' tk acc hk hi)))
 refine wpAny_mono (kdl_extend (A:=A) (s:={ s with heap:=s.heap.push { cls:=.type "list",data:=.seq ([]:List Value).toArray } })
  (R:=λx s'=>x=.ok (.ret (.ref s.heap.objs.size))/\∃ h' tk acc c',s'={ s with heap:=h',toks:=tk }/\(∀ b o,s.heap.get? b=some o->h'.get? b=some o)/\h'.get? s.heap.objs.size=some { cls:=.type "list",dict:=none,data:=.seq acc c',slots:=#[] }/\ItemsOf P acc n)
  K hh (K.keep _ _ hok λb _ o e=>ul _ e) s.heap.objs.size (Nat.ne_of_gt hlt.1) (Nat.ne_of_gt hlt.2) (.ref s.heap.objs.size) 0 hS (λh' tk acc c' hk ho hi=>⟨rfl,h',tk,acc,c',rfl,λb o e=>hk b o (pi (ut e)) (ul _ e),ho,hi⟩) hn) (λfi s' h=>?_) (λe s' h=>?_)
 ·cases fi with
  |done f=>
   have hf:=h.1;cases hf;exact fin _ _ h
  |again c'=>exact ⟨h.1,codeAny_mono h.2 λx s'' hx=>by
    have e:=hx.1;subst e;exact fin _ _ hx⟩
 ·exact absurd h.1 (by simp)
def mq {Q₁:NC}(K:KdlSrc prog w T r d n P OK)(hT0:(T =="tuple")=false) (hh:A.handled=none) (hok:OK s.heap) (hn:n<=bn)
  (h:∀ (h':Heap) (tk:Nat) (acc:Array Value),(∀ b o,s.heap.get? b=some o->h'.get? b=some o)->ItemsOf P acc n->Q₁ (.ref h'.objs.size) { s with heap:=h'.push { cls:=.type "tuple",data:=.seq acc },toks:=tk }):
  codeAny (model prog w) A (.call (.builtin "tuple.__new__") ⟨[.type "tuple",.ref r],[]⟩) (wants Q₁ E) s:=by
 refine codeAny_of_tree ?_;show wpAny _ A.in1 (do checkBuiltinCall "tuple.__new__" ⟨[.type "tuple",.ref r],[]⟩;again (.builtin "tuple.__new__" ⟨[.type "tuple",.ref r],[]⟩)) _ _ s;refine ad (wpAny_of_eq (PySem.F.newCall_tuple_1 _) (am ⟨plainId_quiet PySem.F.plain_tuple_new _,codeAny_builtin PySem.F.entry_tuple_new ?_⟩));rw[Around.under_plainId PySem.F.plain_tuple_new _];have h1:=sub_tuple_self;have h2:=init_tuple_lookup;have h3:=madeHere_tuple;have hTI:=K.type s hok;have h4:=K.notTuple
 wp_walk using wpAny_typeOf hTI,qD (A:=A.in1) K hh hok hn
 intro h' tk acc hk hi;show wpAny _ _ (Builtin.Tuple.tupleExact acc.toList.toArray >>= λz=>ret z) _ _ _;unfold Builtin.Tuple.tupleExact;have e:acc.toList.toArray=acc:=Array.toArray_toList;rw[e];refine ad (wpAny_newObj_type (am ?_) (by show acc.size<=bn;rw[hi.1];exact hn));exact h h' tk acc hk hi
def kJ (K:KdlSrc prog w T r d n P OK)(hT0:(T =="tuple")=false) (hh:A.handled=none) (hok:OK s.heap) (hn:n<=bn)
  (h:∀ (h':Heap) (tk:Nat) (acc:Array Value),(∀ b o,s.heap.get? b=some o->h'.get? b=some o)->ItemsOf P acc n->Q (.ref h'.objs.size) { s with heap:=h'.push { cls:=.type "tuple",data:=.seq acc },toks:=tk }):
  wpAny (model prog w) A (call (.type "tuple") [.ref r]) Q E s:=by
 refine callType_codes (Q₁:=λz s₁=>s₁.TypeIs z "tuple"/\Q z s₁) PySem.F.called_tuple (PySem.F.typeCall_tuple_1 _) PySem.F.entry_object_init (mq K hT0 hh hok hn λh' tk acc hk hi=>⟨⟨_,v4 _ rfl,rfl⟩,h h' tk acc hk hi⟩) λz s₁ g=>?_
 exact ⟨g.1,PySem.F.args_object_init_2 z _,object_init_meets PySem.F.called_tuple.init.lookup PySem.F.called_tuple.made (by decide) prog w A.in1 _ s₁ ⟨g.1,rfl,g.2⟩⟩
end
def Ag:bootBuiltins "list"=some (.type "list"):=by decide+kernel
def wX:bootBuiltins "tuple"=some (.type "tuple"):=by decide+kernel
abbrev Hw (tp:Bool)(xs:List V):HO:=match tp with
 |true=>.tup xs
 |false=>.lst xs
abbrev jf (tp:Bool):String:=match tp with
 |true=>"tuple"
 |false=>"list"
abbrev C3 (tp:Bool):Str:=match tp with
 |true=>"tuple"
 |false=>"list"
abbrev Ey (tp:Bool)(x:V)(H:Hp)(Q:VK):Prop:=∃ d kvs,x=.ref d/\H d=some (.dK kvs)/\∀ p,H p=none->Q (.ref p) (upd H p (Hw tp (kvs.map (·.2))))
def pX:∀ {kvs:List (Key×V)}{vs:List (Key×Value)},KV kvs vs->Vals (kvs.map (·.2)) (vs.map (·.2))
 |_,_,.nil=>.nil
 |_,_,.cons r rs=>.cons r.2 (pX rs)
def wL {Q:VK}{kvs:List (Key×V)}(tp:Bool)(hc:X.calm=true)(I:Inv X Y U H s)(e:H d=some (.dK kvs))(q:∀ p,H p=none->Q (.ref p) (upd H p (Hw tp (kvs.map (·.2))))):
  wpAny (model X.prog X.w) X.A (call (.builtin "dict.values") [.ref d]) (λv s1=>wpAny (model X.prog X.w) X.A (call (.type (jf tp)) [v]) (EP X Y U Q) X.xe s1) X.xe s:=by
 obtain ⟨hz,hd,vs,rel,dd⟩:=lN I.hok (.inl e);refine call_meetsIn PySem.F.slot_dict_values dd.typeIs PySem.F.entry_dict_values (PySem.F.args_dict_values_1 _) (meets_dict_values (ay X.prog X.w) d hd) ⟨⟨vs,dd⟩,?_⟩;obtain ⟨o,es,ep,ho,hx,he,hk,hp,hn⟩:=dd;have hA:s.heap.DictAt (ay X.prog X.w) d vs ep:=⟨o,es,ho,hx,he,hk,hp,hn⟩;have hok:(s.heap.push { cls:=.type "dict_values",data:=.fields #[.ref d] }).IsValuesView s.heap.objs.size d/\(s.heap.push { cls:=.type "dict_values",data:=.fields #[.ref d] }).DictAt (ay X.prog X.w) d vs ep:=⟨⟨_,v4 _ rfl,rfl,rfl⟩,hA.push _⟩;have hl:vs.length<=bn:=by rw[<-rel.length];exact hz
 have hv:∀ (acc:Array Value),ItemsOf (λi v=>∃ k,vs[i]? =some (k,v)) acc vs.length->acc.toList=vs.map (·.2):=λacc hi=>kdl_vals_eq acc.toList (by rw[Array.length_toList];exact hi.1) λj v hj=>hi.2 j v (by rw[<-Array.getElem?_toList];exact hj)
 have I0:Inv X Y U H { s with heap:=s.heap.push { cls:=.type "dict_values",data:=.fields #[.ref d] } }:=I.kept (t':=s.toks) λb u hb=>ul _ hb
 have hlen:(kvs.map (·.2)).length<=bn:=by rw[ce];exact hz
 cases tp with
 |false=>
  refine kdl_call (s:={ s with heap:=s.heap.push { cls:=.type "dict_values",data:=.fields #[.ref d] } }) (kdl_values (prog:=X.prog) (w:=X.w) (knd:=ay X.prog X.w) (r:=s.heap.objs.size) (d:=d) (kvs:=vs) (ep:=ep)) (I.ok.hd hc) hok hl λh' tk acc c' hk' hD hi=>?_
  have ea:=hv acc hi;refine ⟨.ref _,_,I0.laid (t':=tk) hk' (re _) (show aL X.prog X.w _ h' _ (.lst (kvs.map (·.2))) from ⟨hlen,acc.toList,c',by rw[ea];exact pX rel,by rw[Array.toArray_toList];exact hD⟩),rfl,q _ (I0.hok.fresh (re _))⟩
 |true=>
  refine kJ (s:={ s with heap:=s.heap.push { cls:=.type "dict_values",data:=.fields #[.ref d] } }) (kdl_values (prog:=X.prog) (w:=X.w) (knd:=ay X.prog X.w) (r:=s.heap.objs.size) (d:=d) (kvs:=vs) (ep:=ep)) (by decide) (I.ok.hd hc) hok hl λh' tk acc hk' hi=>?_
  have ea:=hv acc hi;have I1:Inv X Y U H { s with heap:=h',toks:=tk }:=I0.kept (t':=tk) hk';have I2:Inv X Y U (upd H h'.objs.size (.tup (kvs.map (·.2)))) { s with heap:=h'.push { cls:=.type "tuple",data:=.seq acc },toks:=tk }:=
   I1.laid (t':=tk) (λb u hb=>ul _ hb) (re _) (show aL X.prog X.w _ _ _ (.tup (kvs.map (·.2))) from ⟨hlen,acc.toList,by rw[ea];exact pX rel,by rw[Array.toArray_toList];exact IsTup.new _ _⟩)
  exact ⟨.ref h'.objs.size,_,I2,rfl,q _ (I1.hok.fresh (re _))⟩
abbrev JS (tp:Bool)(ta:TE):TE:=λU H Q=>ta U H λx H1=>Ey tp x H1 Q
def Dk {a:Expr}{ta:TE}{apos cpos:Pos}(tp:Bool)(hc:X.calm=true)(hg:Gl X (C3 tp))(hm:X.mg (C3 tp)=none)(ha:PE X a ta)(hb:attributeBase a "values" X.env (eval a X.env)=eval a X.env) (hl:(apos.endLine ==cpos.line)=true):
  PE X (.Call (.Name (C3 tp) p) [.Call (.Attribute a "values" apos) [] [] cpos] [] pos) (JS tp ta):=by
 intro Y s U H Q I h;have h1:bm [.Call (.Attribute a "values" apos) [] [] cpos] X.env=[(false,eval (.Call (.Attribute a "values" apos) [] [] cpos) X.env)]:=rfl;have go:wpAny (model X.prog X.w) X.A (eval (.Call (.Attribute a "values" apos) [] [] cpos) X.env) (λv s1=>wpAny (model X.prog X.w) X.A (call (.type (jf tp)) [v]) (EP X Y U Q) X.xe s1) X.xe s:=by
  refine wpAny_Call_method0_late hb hl (aC (ha Y s U H _ I h) λv s1 ⟨x,H1,I1,r1,q1⟩=>?_);obtain ⟨d,kvs,ex,e,q⟩:=q1;subst ex;obtain ⟨g1,g2⟩:=sU (T:="dict") I1 r1 (.inr (.inr (.inl ⟨rfl,.inl ⟨kvs,e⟩⟩)));cases r1;exact ⟨"dict","dict.values",PySem.F.plainAttrs_dict,PySem.F.slot_dict_values,PySem.F.type_dict_values,g1,g2,Calls.callWith_builtin rfl (PySem.evalArgs_none (wL tp hc I1 e q))⟩
 cases tp with
 |true=>
  refine Call_ (cS I hg hm wX (PyProof.Rows.callWith_type1 ?_ h1 rfl));rw[h1];show wpAny _ _ (spliced ((false,eval (.Call (.Attribute a "values" apos) [] [] cpos) X.env)::backTo pos [])) _ _ _;exact Calls.spliced_cons (aC go λv s1 z=>Calls.spliced_nil z)
 |false=>
  refine Call_ (cS I hg hm Ag (PyProof.Rows.callWith_type1 ?_ h1 rfl));rw[h1];show wpAny _ _ (spliced ((false,eval (.Call (.Attribute a "values" apos) [] [] cpos) X.env)::backTo pos [])) _ _ _;exact Calls.spliced_cons (aC go λv s1 z=>Calls.spliced_nil z)
abbrev yA (K:W.Frag)(C:Addr):Bool:=findIn K (.ref C) "__eq__" ==some (some (.builtin "object.__eq__"))&&subIn K (.ref C) (.type "str") ==some false&&subIn K (.ref C) (.type "object") ==some true
def tJ {prog:Program}{w:World}{K:Frag}{C:Addr}{R:Result->Shared->Prop}(X:K.In s.heap)(hm:makesIn K C=true)(hi:findIn K (.ref C) "__init__"=some (some (.builtin "object.__init__")))
  (h:R (.ok (.ret (.ref (s.heap.objs.size+1)))) { s with heap:=(s.heap.push emptyDict).push (instObj C s.heap.objs.size) }):codeAny (model prog w) A (.call (.ref C) ⟨[],[]⟩) R s:=by
 obtain ⟨hh,g,d,t,os⟩:=s;have Y:=makes_of (M:=model prog w) X hm;refine make_core Y (looks_findIn X hi) (λz=>Looks.of_pure (oi_bind z)) (.inr ⟨rfl,rfl⟩) ?_;have k:∀ b o,hh.get? b=some o->((hh.push emptyDict).push (instObj C hh.objs.size)).get? b=some o:=λb o e=>ul _ (ul _ e)
 have hx:((hh.push emptyDict).push (instObj C hh.objs.size)).get? (hh.objs.size+1)=some (instObj C hh.objs.size):=by heap_get
 have t1:Looks (model prog w) ((hh.push emptyDict).push (instObj C hh.objs.size)) (typeOf (.ref (hh.objs.size+1))) (.ref C):=Looks.andThen (Looks.ld hx) .now;have t2:Looks (model prog w) ((hh.push emptyDict).push (instObj C hh.objs.size)) (isInstance (.ref (hh.objs.size+1)) (.type "object")) true:=t1.andThen (Y.top.keeps k);refine codeAny_call_builtin oi_plain entry_oi (@check_slot (model prog w) _ _ _ "object.__init__" "object" "__init__" (.ref (hh.objs.size+1)) [] [] _ oi_kind oi_split t2 (oi_args _) ?_);rw[oi_run];exact am ⟨rfl,h⟩
structure Ms (K:Frag) (C:Addr):Prop where
 makes:makesIn K C=true
 init:findIn K (.ref C) "__init__"=some (some (.builtin "object.__init__"))
 kp:keepIn K (.ref C)=true
abbrev K4 (C:Addr):TE:=λ_ H Q=>∀ x dx,H x=none->H dx=none->dx≠x->Q (.ref x) (upd (upd H dx (.own x)) x (.ins C dx []))
def yH {C:Addr}{x:Str}(M:Ms X.K C)(hg:Gl X x)(hm:X.mg x=some (.ref C))(hdb:(x ==("__debug__":Str))=false):PE X (.Call (.Name x p) [] [] pos) (K4 C):=by
 intro Y s U H Q I h;refine bv (bN I hg hm ?_ hdb);refine W.callWith_K0 I.b6 M.kp (wpAny_call (tJ I.b6 M.makes M.init ?_));have I2:=Inv.made (C:=C) I;exact ⟨.ref (s.heap.objs.size+1),_,I2,rfl,h (s.heap.objs.size+1) s.heap.objs.size (I.hok.fresh (Nat.le_succ _)) (I.hok.fresh (re _)) (pi (Nat.lt_succ_self _))⟩
@[reducible]def VV:List (V×V)->List (Value×Value)->Prop:=Paired λp q=>RelV p.1 q.1/\RelV p.2 q.2
abbrev PQ (X:Cx)(pos:Pos)(keys:List (Option Expr))(values:List Expr)(t:St->Hp->(List (V×V)->Hp->Prop)->Prop):Prop:=
 ∀ (Y:ND) (s:Shared) (U:St) (H:Hp) (Q:List (V×V)->Hp->Prop),Inv X Y U H s->t U H Q->
  wpAny (model X.prog X.w) X.A (evalPairs (pairTrees keys values X.env pos)) (λvs s'=>∃ ps H',Inv X Y U H' s'/\VV ps vs/\Q ps H') X.xe s
def FU:PQ X pos [] [] (λ_ H Q=>Q [] H):=λY s U H Q I h=>pairTrees_nil_walk ⟨[],H,I,.nil,h⟩
variable {t:St->Hp->(List (V×V)->Hp->Prop)->Prop}{vs:List Expr}
def Dj {k v:Expr}{ks:List (Option Expr)}{tk tv:TE}(hk:PE X k tk)(hv:PE X v tv)(hr:PQ X pos ks vs t):
  PQ X pos (some k::ks) (v::vs) (λU H Q=>tk U H λx H1=>tv U H1 λy H2=>t U H2 λps H3=>Q ((x,y)::ps) H3):=λY s U H Q I h=>
 pairTrees_cons_walk (aC (hk Y s U H _ I h) λu s1 ⟨x,H1,I1,rx,q1⟩=>aC (hv Y s1 U H1 _ I1 q1) λw2 s2 ⟨y,H2,I2,ry,q2⟩=>
  aC (hr Y s2 U H2 _ I2 q2) λws s3 ⟨ps,H3,I3,rel,q3⟩=>⟨(x,y)::ps,H3,I3,.cons ⟨rx,ry⟩ rel,q3⟩)
abbrev jc (kvs more:List (Key×V)):List (Key×V):=more.foldl (λacc kv=>putK acc kv.1 kv.2) kvs
def KV.merge:∀ {more:List (Key×V)}{rs:List (Key×Value)}{kvs:List (Key×V)}{vs:List (Key×Value)},KV more rs->KV kvs vs->KV (jc kvs more) (merged vs rs):=by
 intro more rs kvs vs r;unfold KV at r
 induction r generalizing kvs vs with
 |nil=>intro q;exact q
 | @cons p q ps qs h t ih=>
  intro r0;have e:KV (putK kvs p.1 p.2) (stored vs q.1 q.2):=by
   have:=r0.put p.1 h.2;rw[<-h.1];exact this
  exact ih e
def gf:∀ (more kvs:List (Key×V)),(jc kvs more).length<=kvs.length+more.length
 | [],kvs=>by show kvs.length<=kvs.length+0;omega
 |p::r,kvs=>by
  have h1:=gf r (putK kvs p.1 p.2);have h2:=eA kvs p.1 p.2;show (jc (putK kvs p.1 p.2) r).length<=_;rw[length_cons];omega
def lO {P:Program}{w:World}:∀ {kvs:List (Key×V)}{ws:List (Value×Value)},VV (kvs.map λkv=>(kV kv.1,kv.2)) ws->∃ rs,Carries (ay P w) ws rs/\KV kvs rs
 | [],_,r=>by rw[List.map_nil] at r;cases r;exact ⟨[],True.intro,.nil⟩
 |p::kvs,_,r=>by
  rw[map_cons] at r;cases r with
  | @cons a b as bs h t=>
   obtain ⟨rs,c,q⟩:=lO (P:=P) (w:=w) t;obtain ⟨b1,b2⟩:=b;exact ⟨(p.1,b2)::rs,⟨rL h.1,rfl,c⟩,.cons ⟨rfl,h.2⟩ q⟩
abbrev Jd (t:St->Hp->(List (V×V)->Hp->Prop)->Prop):TE:=λU H Q=>∀ p,H p=none->t U (upd H p (.dK [])) λps H2=>H2 p=some (.dK [])/\∃ kvs:List (Key×V),ps=kvs.map (λkv=>(kV kv.1,kv.2))/\kvs.length<=15/\Q (.ref p) (upd H2 p (.dK (jc [] kvs)))
def B4 {keys:List (Option Expr)}{values:List Expr}(h:PQ X pos keys values t)(hall:keys.all (·.isSome)=true)(hl:keys.length=values.length)(h0:keys≠[])
  (h15:keys.length<=15):PE X (.Dict keys values pos) (Jd t):=by
 intro Y s U H Q I q;have hn:=I.hok.fresh (re s.heap.objs.size);have I1:=I.laid (a:=s.heap.objs.size) (o:=.dK []) (h':=s.heap.push { cls:=.type "dict",data:=.dict #[] }) (t':=s.toks) (λ_ _ q=>ul _ q) (re _) (yB s.heap I.big);refine wpAny_Dict_walk (knd:=ay X.prog X.w) hall hl h0 h15 (aC (h Y _ U _ _ I1 (q _ hn)) λws s2 ⟨ps,H2,I2,rel,e,kvs,ep,lk,q2⟩=>?_);subst ep;obtain ⟨rs,c,rk⟩:=lO (P:=X.prog) (w:=X.w) rel;obtain ⟨z,hd,vs0,r0,dd⟩:=Et I2.hok e;cases r0;refine ⟨rs,c,dd,λh' dd' hs=>⟨.ref s.heap.objs.size,_,?_,rfl,q2⟩⟩;have hz:(jc [] kvs).length<=bn:=by
  have h1:=gf kvs [];rw[length_nil] at h1;rw[sizeLine_eq];omega
 have he:∃ q,h'.get? s.heap.objs.size=some q:=let ⟨q,_,_,hq,_⟩:=dd';⟨q,hq⟩;exact pA I2 (by rw[e];exact True.intro) hs he (tX hz hd (rk.merge .nil) dd')
abbrev Az:Expr->Nat
 | .Tuple vs _ _=>vs.length
 |_=>0
abbrev GD (sc:Scope)(tg v:Expr)(ns:List Str):Bool:=match swappedStores [tg] v { scope:=sc,locals:=0,globals:=0,cells:=[] } with
 | .pure (some l)=>l ==ns&&decide (Az v=ns.length)
 |_=>false
variable {tg:Expr}{ns:List Str}
def ym {env:Env}{v:Expr}(h:GD env.scope tg v ns=true):swappedStores [tg] v env=pure (some ns):=by
 have e:swappedStores [tg] v env=swappedStores [tg] v { scope:=env.scope,locals:=0,globals:=0,cells:=[] }:=by
  obtain ⟨sc,a,b,c,d,f,g,i,j⟩:=env
  rfl
 rw[e];unfold GD at h
 split at h
 ·rename_i l e2;rw[nl] at h;rw[e2,beq_iff_eq.mp h.1]
  rfl
 ·cases h
variable {sc:Scope}
def vP {v:Expr}(h:GD sc tg v ns=true):Az v=ns.length:=by
 unfold GD at h
 split at h
 ·rw[nl,decide_eq_true_eq] at h;exact h.2
 ·cases h
def DU {x y:Str}(h:GD sc tg (.Tuple vs k p) [x,y]=true):∃ a b,vs=[a,b]:=by
 have h:=vP h
 match vs,h with
 | [a,b],_=>exact ⟨a,b,rfl⟩
def xa {x y z:Str}(h:GD sc tg (.Tuple vs k p) [x,y,z]=true):∃ a b c,vs=[a,b,c]:=by
 have h:=vP h
 match vs,h with
 | [a,b,c],_=>exact ⟨a,b,c,rfl⟩
abbrev Jp (i j:Nat)(ta:TA):TS:=λD U H=>ta U H λvs H1=>∃ v w,vs=[v,w]/\D.nx ((U.set i (some v)).set j (some w)) H1
def CD {i j:Nat}{x y:Str}{a b:Expr}{px py pt:Pos} {kt k2 pt2} (hc:X.calm=true)(hN:X.N.Nodup)(hi:X.N[i]? =some x)(hj:X.N[j]? =some y)(hij:i≠j)
  (hx:X.env.scope.names.lookup x=some .local) (hy:X.env.scope.names.lookup y=some .local) (ha:PA X [a,b] ta)
  (hw:swappedStores [.Tuple [.Name x px,.Name y py] kt pt] (.Tuple [a,b] k2 pt2) X.env=pure (some [x,y]))
  (hs:swapsWithSole [.Tuple [.Name x px,.Name y py] kt pt] (.Tuple [a,b] k2 pt2) pos.line X.env=pure false:=by rfl):
  PS X (.Assign [.Tuple [.Name x px,.Name y py] kt pt] (.Tuple [a,b] k2 pt2) pos) (Jp i j ta):=by
 intro Y s U H D I h;rw[exec_Assign_arm];refine ad (wpAny_standAt ?_);rw[hs];refine ad (am ?_);rw[if_neg (by decide)];refine ad (Tuple_ (aC (ha _ Y s U H _ I h) λus s1 ⟨vs,H1,I1,r1,q1⟩=>?_));obtain ⟨v,w,e1,q1⟩:=q1;subst e1;obtain ⟨u1,u2,rfl,rv,rw'⟩:∃ u1 u2,us=[u1,u2]/\RelV v u1/\RelV w u2:=by
  cases r1 with
  |cons p q=>
   cases q with
   |cons p' q'=>
    cases q';exact ⟨_,_,rfl,p,p'⟩
 refine wpAny_newObj_type ?_ (by show 2<=bn;decide);have I2:Inv X Y U H1 { s1 with heap:=s1.heap.push { cls:=.type "tuple",data:=.seq [u1,u2].toArray } }:=I1.kept (t':=s1.toks) λb o e=>ul _ e
 rw[hw];refine ad (am ?_);show wpAny (model X.prog X.w) X.A (do rule "assign.swapped-stores";let items <-unpackItems (.ref s1.heap.objs.size) 2 none;assignInOrder [λv=>bindName X.env y v,λv=>bindName X.env x v] items.reverse;pure Flow.next) _ _ _;refine ad (wpAny_rule (ad (unpackItems_tuple (items:=#[u1,u2]) (I.ok.hd hc) (IsTup.new s1.heap _) λh' hx'=>?_)));have I3:=I2.kept (h':=h') (t':=s1.toks) λb o e=>hx' b o (pi (ut e)) e
 show wpAny _ _ (assignInOrder [λv=>bindName X.env y v,λv=>bindName X.env x v] [u2,u1] >>= λ_=>pure Flow.next) _ _ _;refine ad (assignInOrder_cons (wpAny_bindName (bw I3 hN hj (.inl hy) rw' (λs2 I4=>?_) (.inr hy))));refine assignInOrder_cons (wpAny_bindName (bw I4 hN hi (.inl hx) rv (λs3 I5=>assignInOrder_nil (am ?_)) (.inr hx)));rw[set_comm _ _ (Ne.symm hij)] at I5;exact ⟨_,H1,I5,q1⟩
abbrev Ja (i j l:Nat)(ta:TA):TS:=λD U H=>ta U H λvs H1=>∃ v w x,vs=[v,w,x]/\D.nx (((U.set i (some v)).set j (some w)).set l (some x)) H1
def CB {i j l:Nat}{x y z:Str}{a b c:Expr}{px py pz pt:Pos} {kt k2 pt2} (hc:X.calm=true)(hN:X.N.Nodup)(hi:X.N[i]? =some x)(hj:X.N[j]? =some y)(hl:X.N[l]? =some z)(hij:i≠j)(hil:i≠l)(hjl:j≠l)
  (hx:X.env.scope.names.lookup x=some .local) (hy:X.env.scope.names.lookup y=some .local) (hz:X.env.scope.names.lookup z=some .local) (ha:PA X [a,b,c] ta)
  (hw:swappedStores [.Tuple [.Name x px,.Name y py,.Name z pz] kt pt] (.Tuple [a,b,c] k2 pt2) X.env=pure (some [x,y,z]))
  (hs:swapsWithSole [.Tuple [.Name x px,.Name y py,.Name z pz] kt pt] (.Tuple [a,b,c] k2 pt2) pos.line X.env=pure false:=by rfl):
  PS X (.Assign [.Tuple [.Name x px,.Name y py,.Name z pz] kt pt] (.Tuple [a,b,c] k2 pt2) pos) (Ja i j l ta):=by
 intro Y s U H D I h;rw[exec_Assign_arm];refine ad (wpAny_standAt ?_);rw[hs];refine ad (am ?_);rw[if_neg (by decide)];refine ad (Tuple_ (aC (ha _ Y s U H _ I h) λus s1 ⟨vs,H1,I1,r1,q1⟩=>?_));obtain ⟨v,w,x',e1,q1⟩:=q1;subst e1;obtain ⟨u1,u2,u3,rfl,rv,rw',rx'⟩:∃ u1 u2 u3,us=[u1,u2,u3]/\RelV v u1/\RelV w u2/\RelV x' u3:=by
  cases r1 with
  |cons p q=>
   cases q with
   |cons p' q'=>
    cases q' with
    |cons p2 q2=>
     cases q2;exact ⟨_,_,_,rfl,p,p',p2⟩
 refine wpAny_newObj_type ?_ (by show 3<=bn;decide);have I2:Inv X Y U H1 { s1 with heap:=s1.heap.push { cls:=.type "tuple",data:=.seq [u1,u2,u3].toArray } }:=I1.kept (t':=s1.toks) λb o e=>ul _ e
 rw[hw];refine ad (am ?_);show wpAny (model X.prog X.w) X.A (do rule "assign.swapped-stores";let items <-unpackItems (.ref s1.heap.objs.size) 3 none;assignInOrder [λv=>bindName X.env z v,λv=>bindName X.env y v,λv=>bindName X.env x v] items.reverse;pure Flow.next) _ _ _;refine ad (wpAny_rule (ad (unpackItems_tuple (items:=#[u1,u2,u3]) (I.ok.hd hc) (IsTup.new s1.heap _) λh' hx'=>?_)));have I3:=I2.kept (h':=h') (t':=s1.toks) λb o e=>hx' b o (pi (ut e)) e
 show wpAny _ _ (assignInOrder [λv=>bindName X.env z v,λv=>bindName X.env y v,λv=>bindName X.env x v] [u3,u2,u1] >>= λ_=>pure Flow.next) _ _ _;refine ad (assignInOrder_cons (wpAny_bindName (bw I3 hN hl (.inl hz) rx' (λs2 I4=>?_) (.inr hz))));refine assignInOrder_cons (wpAny_bindName (bw I4 hN hj (.inl hy) rw' (λs3 I5=>?_) (.inr hy)));refine assignInOrder_cons (wpAny_bindName (bw I5 hN hi (.inl hx) rv (λs4 I6=>assignInOrder_nil (am ?_)) (.inr hx)));rw[set_comm _ _ (Ne.symm hij),set_comm _ _ (Ne.symm hil),set_comm _ _ (Ne.symm hjl)] at I6;exact ⟨_,H1,I6,q1⟩
abbrev ur (K:W.Frag)(C:Addr):Bool:=findIn K (.ref C) "__ne__" ==some (some (.builtin "object.__ne__"))&&yA K C
section
variable {A:Around}{s:Shared}{l C dx:Addr}{od:Option Obj}{K:W.Frag}{prog:Program}{w:World}{E:NC}
def Kc {Q:NA}(X:K.In s.heap)(I:InstAt s.heap l (instObj C dx) C od)(h1:findIn K (.ref C) "__eq__"=some (some (.builtin "object.__eq__"))) (h3:subIn K (.ref C) (.type "object")=some true) (h:Q (some (.bool true)) s):wpAny (model prog w) A (callSpecialIfBound? (.ref l) "__eq__" [.ref l]) Q E s:=by
 simp only[callSpecialIfBound?,bindSpecialIfBound?];refine bd (ad (ad (ad (I.type.here ((looks_findIn X h1).here ?_)))));simp only[PySem.F.cmp_object.eq.bind];have fin:wpAny (model prog w) A (call (.builtin "object.__eq__") ([.ref l]++[.ref l]) >>= λv=>pure (some v)) Q E s:=by
  refine ad (wpAny_call (codeAny_call_builtin PySem.F.cmp_object.eq.plain PySem.F.cmpEntry_eq ?_));simp only[checkBuiltinCall,PySem.F.cmpKind_eq,PySem.F.cmpSplit_eq];refine ad (ad (I.type.here ((looks_subIn X h3).here ?_)));rw[if_neg (by simp)];have ha:=PySem.F.cmpArgs_eq (.ref l) (.ref l);have h0:(match Manifest.signature? "object.__eq__" with|some sig=>Bind.checkArgs "object.__eq__" sig { pos:=[Value.ref l]++[Value.ref l] }|x=>pure ())=pure ():=ha;refine wpAny_of_eq h0 ?_;exact objEq_entry_same (am h)
 refine ad (wpAny_askSetting (wpAny_ite ?_))
 split
 ·exact ad (am (am fin))
 ·exact wpAny_tryCatch (ad (am (am fin)))
def JE {Q:NA}(X:K.In s.heap)(I:InstAt s.heap l (instObj C dx) C od)(h1:findIn K (.ref C) "__eq__"=some (some (.builtin "object.__eq__"))) (h2:findIn K (.ref C) "__ne__"=some (some (.builtin "object.__ne__"))) (h3:subIn K (.ref C) (.type "object")=some true) (hu:A.units+2<cLine) (h:Q (some (.bool false)) s):wpAny (model prog w) A (callSpecialIfBound? (.ref l) "__ne__" [.ref l]) Q E s:=by
 simp only[callSpecialIfBound?,bindSpecialIfBound?];refine bd (ad (ad (ad (I.type.here ((looks_findIn X h2).here ?_)))));simp only[PySem.F.cmp_object.ne.bind];have fin:wpAny (model prog w) A (call (.builtin "object.__ne__") ([.ref l]++[.ref l]) >>= λv=>pure (some v)) Q E s:=by
  refine ad (wpAny_call (codeAny_call_builtin PySem.F.cmp_object.ne.plain PySem.F.cmpEntry_ne ?_));simp only[checkBuiltinCall,PySem.F.cmpKind_ne,PySem.F.cmpSplit_ne];refine ad (ad (I.type.here ((looks_subIn X h3).here ?_)));rw[if_neg (by simp)];have ha:=PySem.F.cmpArgs_ne (.ref l) (.ref l);have h0:(match Manifest.signature? "object.__ne__" with|some sig=>Bind.checkArgs "object.__ne__" sig { pos:=[Value.ref l]++[Value.ref l] }|x=>pure ())=pure ():=ha;refine wpAny_of_eq h0 ?_;unfold Builtin.«object.__ne__»;show wpAny _ _ (pure (Value.ref l,[Value.ref l]) >>= _) _ _ _;refine ad (am ?_);refine ad (wpAny_cRoomFor (show A.units+1<cLine by omega) ?_);refine ad (Kc X I h1 h3 ?_);refine ad (bi ?_);exact am (am h)
 refine ad (wpAny_askSetting (wpAny_ite ?_))
 split
 ·exact ad (am (am fin))
 ·exact wpAny_tryCatch (ad (am (am fin)))
def wx (X:K.In s.heap)(I:InstAt s.heap l (instObj C dx) C od)(hC:ur K C=true)(hu:A.units+3<cLine):SeqAt.RcNeAt A s (.ref l) (.ref l) false:=λprog w E Q h=>by
 unfold ur yA at hC;simp only[nl,beq_iff_eq] at hC;obtain ⟨h0,⟨h1,h2⟩,h3⟩:=hC;simp only[richCompare,PySem.cmpInfo_NotEq]
 try with_reducible refine bd ?_
 refine ad (wpAny_cRoomFor nofun ?_);show wpAny _ _ (typeOf (Value.ref l) >>= _) _ _ _;refine ad (I.type.here (ad (I.type.here ?_)));rw[if_neg (by simp)];refine ad (am ?_);rw[if_neg (by simp)];refine ad ?_;simp only[tryCompare];refine ad (JE X I h1 h0 h3 nofun ?_);exact am (am h)
def Ij (d:Addr)(hd:(d ==sysModules)=false)(dd:Option Addr)(ep:Nat)(sl:Array (Option Value)):Meets (Builtin.«dict.__ne__» ⟨[.ref d,.ref d],[]⟩) (λ_ R s=>s.heap.get? d=some ⟨.type "dict",dd,.dict #[] ep,sl⟩/\R (.ok (.ret (.bool false))) s):=by
 intro prog w A R s hs;obtain ⟨h,g,dp,tt,os⟩:=s;obtain ⟨ho,q⟩:=hs;have hT:(⟨h,g,dp,tt,os⟩:Shared).TypeIs (.ref d) "dict":=⟨_,ho,rfl⟩;unfold Builtin.«dict.__ne__»
 k_delta "equality"
 unfold Builtin.Dict.dictSlotArgs;refine ad (ad (wpAny_notOrdered_dict hT ?_));show wpAny _ _ (pure (Value.ref d,[Value.ref d]) >>= _) _ _ _;refine ad (am (am ?_));have hi:=PySem.F.kt_sub_dict;show wpAny _ _ (isInstance (.ref d) (.type "dict") >>= _) _ _ _;unfold Builtin.Dict.samePairs;simp only[Std.Legacy.Range.forIn_eq_forIn_range']
 repeat (any_goals first|assumption|wp_step)
def CS (hd:(d ==sysModules)=false){ep:Nat}(ho:s.heap.get? d=some ⟨.type "dict",dd,.dict #[] ep,sl⟩) (hu:A.units<cLine):SeqAt.RcNeAt A s (.ref d) (.ref d) false:=λprog w E Q h=>
 richCompare_meets_room (op:=.NotEq) ⟨_,ho,rfl⟩ ⟨_,ho,rfl⟩ PySem.F.slot_dict_ne PySem.F.entry_dict_ne (PySem.F.args_dict_ne_2 _ _) (Ij d hd dd ep sl) ⟨ho,show Value.bool false≠Value.notImplemented/\Q (.bool false) s from ⟨(λx=>nomatch x),h⟩⟩ hu
abbrev Bi (K:W.Frag)(H:Hp)(a:Addr):Prop:=(∃ xs,aX K H a xs)\/H a=some (.dK [])\/∃ C dx fs,H a=some (.ins C dx fs)/\ur K C=true
def BS {a:Addr}(I:Inv X Y U H s)(h:Bi X.K H a)(hu:A.units+3<cLine):SeqAt.RcNeAt A s (.ref a) (.ref a) false:=by
 rcases h with ⟨xs,h⟩|h|⟨C,dx,fs,h,hn⟩
 ·obtain ⟨ia,ra,pa,_⟩:=I.tuple h;have rc:=SeqAt.RcNeAt.tuples (A:=A) (e:=λ_=>true) (show s.heap.IsTuple a ia.toArray from pa) (show s.heap.IsTuple a ia.toArray from pa) nofun λj h1 h2=>SeqAt.EqAt.same _
  have e:((List.range (min ia.toArray.size ia.toArray.size)).all (λ_=>true)&&ia.toArray.size ==ia.toArray.size)=true:=by simp
  rw[e] at rc;exact rc
 ·obtain ⟨z,hd,vs,rel,dd⟩:=lN I.hok (.inl h);cases rel;obtain ⟨⟨c,d,da,sl⟩,es,ep,ho,hx,he,_,hp,_⟩:=dd;have e0:es=#[]:=by
   cases hp':es.toList with
   |nil=>exact Array.toList_eq_nil_iff.mp hp'
   |cons a b=>rw[hp'] at hp;cases hp
  subst e0;obtain rfl:da=.dict #[] ep:=he;obtain ⟨rfl,_⟩:=hx;exact CS hd ho nofun
 ·obtain ⟨mA,o,_⟩:=hU I.hok h;obtain ⟨od,i,_⟩:=o.look;exact wx I.b6 i hn hu
end
end L2
namespace L2
open PySem PySem.Spec PyProof.Rows
abbrev MZ (hi:Int)(n:Nat):It:=⟨λi _=>i<n,λi H x H'=>H'=H/\x=.int (hi-i),λi _=>n<=i⟩
section
variable {X:Cx}{tg:Expr}
end
end L2
namespace L2
open PySem PySem.Spec PySem.W PyProof.Rows
open PySem.AutoSeq1 (wpAny_loadPart')
section
variable {prog:Program}{w:World}{A:Around}{E:NC}{s:Shared}
end
abbrev MJ (K:W.Frag)(l:Addr):It:=
 ⟨λi H=>∃ xs x,aX K H l xs/\xs[i]? =some x,λi H x H'=>∃ T y,H T=none/\x=.ref T/\H'=upd H T (.tup [.int i,y])/\∀ xs,aX K H l xs->xs[i]? =some y,λi H=>∃ xs,aX K H l xs/\xs.length<=i⟩
section
variable {X:Cx}{Y:ND}{U:St}{H:Hp}{s:Shared}
end
end L2
namespace L2
open PySem PySem.Spec PyProof.Rows
inductive gF (K:W.Frag) (H:Hp):Nat->V->V->Bool->Prop where
 |flat {n:Nat}{x y:V}(fx:aN x=true) (fy:aN y=true):gF K H n x y (dr x y)
 |same {n:Nat}(a:Addr):gF K H (n+1) (.ref a) (.ref a) true
 |ll {n:Nat}{a b:Addr}{xs ys:List V}{e:Nat->Bool}(ha:aR K H a xs) (hb:aR K H b ys) (hl:xs.length=ys.length) (h:∀ j x y,xs[j]? =some x->ys[j]? =some y->gF K H (n+1) x y (e j)):gF K H (n+2) (.ref a) (.ref b) ((List.range xs.length).all e)
 |tt {n:Nat}{a b:Addr}{xs ys:List V}{e:Nat->Bool}(ha:aX K H a xs) (hb:aX K H b ys) (h:∀ j x y,xs[j]? =some x->ys[j]? =some y->gF K H (n+1) x y (e j)):gF K H (n+2) (.ref a) (.ref b) ((List.range (min xs.length ys.length)).all e&&xs.length ==ys.length)
variable {A:Around}
section
variable {X:Cx}{Y:ND}{s:Shared}{U:St}{H:Hp}
def zm {y x:V}{u v:Value}(ry:RelV y u)(rx:RelV x v)(fy:aN y=true)(fx:aN x=true):SeqAt.RcAt A s u v (dr y x):=by
 cases y<;>first|cases fy|skip
 all_goals (cases x<;>first|cases fx|skip)
 all_goals (first|(obtain ⟨t,rfl⟩:=ry)|cases ry)
 all_goals (first|(obtain ⟨t',rfl⟩:=rx)|cases rx)
 ·exact SeqAt.RcAt.none_none
 ·exact SeqAt.RcAt.none_bool _
 ·exact SeqAt.RcAt.none_int _ _
 ·exact SeqAt.RcAt.none_str _ _
 ·exact SeqAt.RcAt.bool_none _
 ·exact SeqAt.RcAt.bool_bool _ _
 ·exact SeqAt.RcAt.bool_int _ _ _
 ·exact SeqAt.RcAt.bool_str _ _ _
 ·exact SeqAt.RcAt.int_none _ _
 ·exact SeqAt.RcAt.int_bool _ _ _
 ·exact SeqAt.RcAt.int_int _ _ _ _
 ·exact SeqAt.RcAt.int_str _ _ _ _
 ·exact SeqAt.RcAt.str_none _ _
 ·exact SeqAt.RcAt.str_bool _ _ _
 ·exact SeqAt.RcAt.str_int _ _ _ _
 ·exact SeqAt.RcAt.str_str _ _ _ _
def rY {y x:V}{u v:Value}(ry:RelV y u)(rx:RelV x v)(fy:aN y=true)(fx:aN x=true):SeqAt.RcNeAt A s u v (!dr y x):=by
 cases y<;>first|cases fy|skip
 all_goals (cases x<;>first|cases fx|skip)
 all_goals (first|(obtain ⟨t,rfl⟩:=ry)|cases ry)
 all_goals (first|(obtain ⟨t',rfl⟩:=rx)|cases rx)
 ·exact SeqAt.RcNeAt.none_none
 ·exact SeqAt.RcNeAt.none_bool _
 ·exact SeqAt.RcNeAt.none_int _ _
 ·exact SeqAt.RcNeAt.none_str _ _
 ·exact SeqAt.RcNeAt.bool_none _
 ·exact SeqAt.RcNeAt.bool_bool _ _
 ·exact SeqAt.RcNeAt.bool_int _ _ _
 ·exact SeqAt.RcNeAt.bool_str _ _ _
 ·exact SeqAt.RcNeAt.int_none _ _
 ·exact SeqAt.RcNeAt.int_bool _ _ _
 ·exact SeqAt.RcNeAt.int_int _ _ _ _
 ·exact SeqAt.RcNeAt.int_str _ _ _ _
 ·exact SeqAt.RcNeAt.str_none _ _
 ·exact SeqAt.RcNeAt.str_bool _ _ _
 ·exact SeqAt.RcNeAt.str_int _ _ _ _
 ·exact SeqAt.RcNeAt.str_str _ _ _ _
def eqv_refl (I:Inv X Y U H s):∀ {n:Nat}{x y:V}{b:Bool},gF X.K H n x y b->x=y->b=true:=by
 intro n x y b h
 induction h with
 | @flat n x y fx fy=>
  rintro rfl;cases x<;>first|(exact absurd fx Bool.false_ne_true)|simp[dr]
 |same a=>intro _;rfl
 | @ll n a b xs ys e ha hb hl h ih=>
  intro z;cases z;have:=I.kQ ha hb;subst this;rw[all_eq_true];intro j hj;have hj':j<xs.length:=mem_range.mp hj;exact ih j _ _ (li hj') (li hj') rfl
 | @tt n a b xs ys e ha hb h ih=>
  intro z;cases z;have:=I.ja ha hb;subst this;rw[beq_self_eq_true,Bool.and_true,Nat.min_self,all_eq_true];intro j hj;have hj':j<xs.length:=mem_range.mp hj;exact ih j _ _ (li hj') (li hj') rfl
def rl (I:Inv X Y U H s):∀ {n:Nat}{x y:V}{b:Bool},gF X.K H n x y b->∀ {A:Around}{u v:Value},A.units+n<cLine->RelV x u->RelV y v->
  (SeqAt.EqAt A s u v b)/\(x=y\/SeqAt.RcAt A s u v b/\SeqAt.RcNeAt A s u v (!b)):=by
 intro n x y b h
 induction h with
 |flat fx fy=>intro A u v _ rx ry;exact ⟨Bb rx ry fx fy,.inr ⟨zm rx ry fx fy,rY rx ry fx fy⟩⟩
 |same a=>intro A u v _ rx ry;cases rx;cases ry;exact ⟨SeqAt.EqAt.same _,.inl rfl⟩
 | @ll n a b xs ys e ha hb hl h ih=>
  intro A u v hu rx ry;have hall:=gF.ll ha hb hl h;cases rx;cases ry
  by_cases hab:a=b
  ·subst hab;have z:=eqv_refl I hall rfl;rw[z];exact ⟨SeqAt.EqAt.same _,.inl rfl⟩
  obtain ⟨ia,ra,pa,_⟩:=I.list ha;obtain ⟨ib,rb,pb,_⟩:=I.list hb;have e1:ia.toArray.size=xs.length:=by rw[ii,ra.length]
  have e2:ib.toArray.size=ys.length:=by rw[ii,rb.length]
  have he:∀ j (h1:j<ia.toArray.size) (h2:j<ib.toArray.size),SeqAt.EqAt A.in1 s ia.toArray[j] ib.toArray[j] (e j):=λj h1 h2=>by
   obtain ⟨x1,f1,r1⟩:=kD ra h1;obtain ⟨y1,f2,r2⟩:=kD rb h2;exact (ih j x1 y1 f1 f2 (by show A.units+1+(n+1)<cLine;omega) r1 r2).1
  have rc:=SeqAt.RcAt.lists (A:=A) pa.isList pb.isList (by rw[e1,e2,hl]) nofun he;have rn:=SeqAt.RcNeAt.lists (A:=A) pa.isList pb.isList (by rw[e1,e2,hl]) nofun he;rw[e1] at rc rn;exact ⟨SeqAt.EqAt.of_refs hab rc,.inr ⟨rc,rn⟩⟩
 | @tt n a b xs ys e ha hb h ih=>
  intro A u v hu rx ry;have hall:=gF.tt ha hb h;cases rx;cases ry
  by_cases hab:a=b
  ·subst hab;have z:=eqv_refl I hall rfl;rw[z];exact ⟨SeqAt.EqAt.same _,.inl rfl⟩
  obtain ⟨ia,ra,pa,_⟩:=I.tuple ha;obtain ⟨ib,rb,pb,_⟩:=I.tuple hb;have e1:ia.toArray.size=xs.length:=by rw[ii,ra.length]
  have e2:ib.toArray.size=ys.length:=by rw[ii,rb.length]
  have he:∀ j (h1:j<ia.toArray.size) (h2:j<ib.toArray.size),SeqAt.EqAt A.in1 s ia.toArray[j] ib.toArray[j] (e j):=λj h1 h2=>by
   obtain ⟨x1,f1,r1⟩:=kD ra h1;obtain ⟨y1,f2,r2⟩:=kD rb h2;exact (ih j x1 y1 f1 f2 (by show A.units+1+(n+1)<cLine;omega) r1 r2).1
  have rc:=SeqAt.RcAt.tuples (A:=A) (show s.heap.IsTuple a ia.toArray from pa) (show s.heap.IsTuple b ib.toArray from pb) nofun he;have rn:=SeqAt.RcNeAt.tuples (A:=A) (show s.heap.IsTuple a ia.toArray from pa) (show s.heap.IsTuple b ib.toArray from pb) nofun he;rw[e1,e2] at rc rn;exact ⟨SeqAt.EqAt.of_refs hab rc,.inr ⟨rc,rn⟩⟩
@[irreducible] noncomputable def ic (K:W.Frag) (neg:Bool):R2:=λx y H Q=>∃ n b,gF K H n x y b/\n<=100/\(aN x=true\/x≠y\/(neg=false/\∃ a,x=.ref a/\yM K H a)\/(neg=true/\∃ a,x=.ref a/\Bi K H a))/\Q (.bl (if neg then !b else b)) H
def GZ (hu:X.A.units+200<cLine):cV X (compareOp .Eq) (ic X.K false):=by
 intro Y s U H x y v u Q I rx ry h;unfold ic at h;obtain ⟨n,b,e,hn,hx,q⟩:=h;rcases (rl I e (A:=X.A) nofun rx ry).2 with z|⟨z,_⟩
 ·subst z;rcases hx with hx|hx
  ·have z:=eqv_refl I e rfl;have r:=zm (s:=s) (A:=X.A) rx ry hx hx;have z2:=eqv_refl I (gF.flat (K:=X.K) (H:=H) (n:=0) hx hx) rfl;rw[z2] at r;rw[z] at q;exact PySem.EqBoolInt.of_rc r ⟨.bl true,H,I,rfl,q⟩
  rcases hx with hx|⟨_,a,rfl,hs⟩|⟨hx,_⟩
  ·exact absurd rfl hx
  ·have z:=eqv_refl I e rfl;rw[z] at q;cases rx;cases ry;exact PySem.EqBoolInt.of_rc (DV (A:=X.A) I hs nofun) ⟨.bl true,H,I,rfl,q⟩
  ·cases hx
 ·exact PySem.EqBoolInt.of_rc z ⟨.bl b,H,I,rfl,q⟩
def Fe (hu:X.A.units+200<cLine):cV X (compareOp .NotEq) (ic X.K true):=by
 intro Y s U H x y v u Q I rx ry h;unfold ic at h;obtain ⟨n,b,e,hn,hx,q⟩:=h;rcases (rl I e (A:=X.A) nofun rx ry).2 with z|⟨_,z⟩
 ·subst z;rcases hx with hx|hx
  ·have z:=eqv_refl I e rfl;have r:=rY (s:=s) (A:=X.A) rx ry hx hx;have z2:=eqv_refl I (gF.flat (K:=X.K) (H:=H) (n:=0) hx hx) rfl;rw[z2] at r;rw[z] at q;exact PySem.EqBoolInt.of_rcne r ⟨.bl false,H,I,rfl,q⟩
  rcases hx with hx|⟨hx,_⟩|⟨_,a,rfl,hs⟩
  ·exact absurd rfl hx
  ·cases hx
  ·have z:=eqv_refl I e rfl;rw[z] at q;cases rx;cases ry;exact PySem.EqBoolInt.of_rcne (BS (A:=X.A) I hs nofun) ⟨.bl false,H,I,rfl,q⟩
 ·exact PySem.EqBoolInt.of_rcne z ⟨.bl (!b),H,I,rfl,q⟩
end
@[irreducible] noncomputable def Du (K:W.Frag) (a b:Addr) (H:Hp) (Q:VK):Prop:=(∃ xs ys,H a=some (.lst xs)/\H b=some (.lst ys)/\xs.length+ys.length<=100000/\∀ p,H p=none->Q (.ref p) (upd H p (.lst (xs++ys))))\/False
@[irreducible] noncomputable def Cp (K:W.Frag) (a:Addr) (k:Int) (H:Hp) (Q:VK):Prop:=(∃ xs,H a=some (.lst xs)/\ -1000<=k/\k<=1000/\xs.length<=1000/\∀ p,H p=none->Q (.ref p) (upd H p (.lst (sK k.toNat xs).flatten)))\/False
abbrev Ga (K:W.Frag):R2:=λx y H Q=>match x,y with
 | .int i,.int j=>Q (.int (i+j)) H
 | .str a,.str b=>a.length+b.length<=100000/\Q (.str (a++b)) H
 | .ref a,.ref b=>Du K a b H Q
 |_,_=>False
abbrev FR:R2:=λx y H Q=>match x,y with
 | .int i,.int j=>Q (.int (i-j)) H
 |_,_=>False
abbrev GB (K:W.Frag):R2:=λx y H Q=>match x,y with
 | .int i,.int j=>rQ i j/\Q (.int (i*j)) H
 | .ref a,.int k=>Cp K a k H Q
 |_,_=>False
abbrev Fm:R2:=λx y H Q=>match x,y with
 | .int i,.int j=>(0<j/\j<1073741824)/\Q (.int (i / j)) H
 |_,_=>False
abbrev Fq:R2:=λx y H Q=>match x,y with
 | .int i,.int j=>0<j/\Q (.int (i % j)) H
 |_,_=>False
abbrev FP:R2:=λx y H Q=>match x,y with
 | .int i,.int j=>Cr i j/\Q (.int (i ^ j.toNat)) H
 |_,_=>False
abbrev GK (K:W.Frag)(op:Operator):R2:=match op with
 | .Add=>Ga K
 | .Sub=>FR
 | .Mult=>GB K
 | .FloorDiv=>Fm
 | .Mod=>Fq
 | .Pow=>FP
 |_=>λ_ _ _ _=>False
section
variable {X:Cx}
def nQ {n:Nat}(h:n<=1000000):n<=bn:=by rw[sizeLine_eq];omega
def FE (op:Operator):cV X (binaryOp op) (GK X.K op):=by
 intro Y s U H x y v u Q I rx ry h;cases op with
 |Add=>
  have h':Ga X.K x y H Q:=h;unfold Ga at h'
  split at h'
  ·exact Gp Y s U H _ _ v u Q I rx ry ⟨_,_,rfl,rfl,h'⟩
  ·exact t7 Y s U H _ _ v u Q I rx ry ⟨_,_,rfl,rfl,nQ nofun,h'.2⟩
  ·unfold Du at h';rcases h' with ⟨xs,ys,ha,hb,hz,q⟩|h'
   ·exact Fz Y s U H _ _ v u Q I rx ry ⟨_,_,xs,ys,rfl,rfl,ha,hb,nQ nofun,q⟩
   ·exact h'.elim
  ·exact h'.elim
 |Sub=>
  have h':FR x y H Q:=h;unfold FR at h'
  split at h'
  ·exact Fb Y s U H _ _ v u Q I rx ry ⟨_,_,rfl,rfl,h'⟩
  ·exact h'.elim
 |Mult=>
  have h':GB X.K x y H Q:=h;unfold GB at h'
  split at h'
  ·exact E8 Y s U H _ _ v u Q I rx ry ⟨_,_,rfl,rfl,h'.1,h'.2⟩
  ·rename_i k;unfold Cp at h';rcases h' with ⟨xs,ha,h1,h2,hz,q⟩|h'
   ·refine HH Y s U H _ _ v u Q I rx ry ⟨_,k,xs,rfl,rfl,ha,by omega,by omega,nQ ?_,q⟩;have:xs.length*k.toNat<=1000*1000:=Nat.mul_le_mul hz nofun
    omega
   ·exact h'.elim
  ·exact h'.elim
 |FloorDiv=>
  have h':Fm x y H Q:=h;unfold Fm at h'
  split at h'
  ·exact CY Y s U H _ _ v u Q I rx ry ⟨_,_,rfl,rfl,h'.1,h'.2⟩
  ·exact h'.elim
 |Mod=>
  have h':Fq x y H Q:=h;unfold Fq at h'
  split at h'
  ·exact Fu Y s U H _ _ v u Q I rx ry ⟨_,_,rfl,rfl,h'.1,h'.2⟩
  ·exact h'.elim
 |Pow=>
  have h':FP x y H Q:=h;unfold FP at h'
  split at h'
  ·exact G1 Y s U H _ _ v u Q I rx ry ⟨_,_,rfl,rfl,h'.1,h'.2⟩
  ·exact h'.elim
 |_=>exact (show False from h).elim
abbrev xJ (f:Int->Int->Bool):R2:=λx y H Q=>match x,y with
 | .int i,.int j=>Q (.bl (f i j)) H
 |_,_=>False
@[irreducible] noncomputable def GH (K:W.Frag) (neg:Bool):R2:=λx y H Q=>match y with
 | .ref p=>(∃ xs,(aR K H p xs\/aX K H p xs)/\aN x=true/\xs.all aN=true/\Q (.bl (if neg then !CG x xs else CG x xs)) H)\/False\/False
 | .str j=>False
 |_=>False
@[irreducible] noncomputable def Bv (neg:Bool):R2:=λx y H Q=>match y with
 | .non=>Q (.bl (if neg then !decide (x=.non) else decide (x=.non))) H
 | .bl b=>False
 | .ref b=>False
 |_=>False
abbrev lr (K:W.Frag)(op:CmpOp):R2:=match op with
 | .Eq=>ic K false
 | .NotEq=>ic K true
 | .Lt=>xJ λi j=>decide (i<j)
 | .LtE=>xJ λi j=>decide (i<=j)
 | .Gt=>xJ λi j=>decide (j<i)
 | .GtE=>xJ λi j=>decide (j<=i)
 | .In=>GH K false
 | .NotIn=>λ_ _ _ _=>False
 | .Is=>Bv false
 | .IsNot=>Bv true
def pT {f:Int->Int->Bool}{op:CmpOp}(ho:cV X (compareOp op) (Dz λi j=>.bl (f i j))):cV X (compareOp op) (xJ f):=by
 intro Y s U H x y v u Q I rx ry h;unfold xJ at h
 split at h
 ·exact ho Y s U H _ _ v u Q I rx ry ⟨_,_,rfl,rfl,h⟩
 ·exact h.elim
def Hc (hu:X.A.units+200<cLine)(op:CmpOp):cV X (compareOp op) (lr X.K op):=by
 cases op with
 |Eq=>exact GZ hu
 |NotEq=>exact Fe hu
 |Lt=>exact pT JU
 |LtE=>exact pT IW
 |Gt=>exact pT JQ
 |GtE=>exact pT Kb
 |In=>
  intro Y s U H x y v u Q I rx ry h;have h':GH X.K false x y H Q:=h;unfold GH at h'
  split at h'
  ·rcases h' with ⟨xs,hx,f1,f2,q⟩|g|z
   ·exact wa Y s U H _ _ v u Q I rx ry ⟨_,xs,rfl,hx,f1,f2,q⟩
   ·exact g.elim
   ·exact z.elim
  ·exact h'.elim
  ·exact h'.elim
 |NotIn=>exact λ_ _ _ _ _ _ _ _ _ _ _ _ h=>(show False from h).elim
 |Is=>
  intro Y s U H x y v u Q I rx ry h;have h':Bv false x y H Q:=h;unfold Bv at h'
  split at h'
  ·exact GV Y s U H _ _ v u Q I rx ry ⟨rfl,h'⟩
  ·exact h'.elim
  ·exact h'.elim
  ·exact h'.elim
 |IsNot=>
  intro Y s U H x y v u Q I rx ry h;have h':Bv true x y H Q:=h;unfold Bv at h'
  split at h'
  ·exact Di Y s U H _ _ v u Q I rx ry ⟨rfl,h'⟩
  ·exact h'.elim
  ·exact h'.elim
  ·exact h'.elim
@[irreducible] noncomputable def qP (K:W.Frag):R2:=λx y H Q=>match x with
 | .ref p=>(∃ xs i v,y=.int i/\(aR K H p xs\/aX K H p xs)/\kG xs i=some v/\Q v H)\/∃ v,HG H p y (some v)/\Q v H
 | .str z=>False
 |_=>False
def tG (hu:X.A.units+200<cLine):JR X (qP X.K):=by
 intro value slice Y s U H x y v u Q I rx ry h hs;unfold qP at h
 split at h
 ·rcases h with ⟨xs,i,w,rfl,hx,ha,q⟩|⟨w,g,q⟩
  ·rcases hx with hx|hx
   ·exact Ec value slice Y s U H _ _ v u Q I rx ry ⟨_,xs,i,w,rfl,rfl,hx,ha,q⟩ hs
   ·exact HM value slice Y s U H _ _ v u Q I rx ry ⟨_,xs,i,w,rfl,rfl,hx,ha,q⟩ hs
  ·cases rx;exact tail_any (rX I g) PySem.F.slot_dict_getitem.lookup (xf nofun I g ry λw' s3 I3 rw'=>⟨w,H,I3,rw',q⟩) hs
 ·exact h.elim
 ·exact h.elim
@[irreducible] noncomputable def iS:xT:=λo i v H Q=>match o with
 | .ref p=>(∃ xs k j,i=.int k/\H p=some (.lst xs)/\zQ xs.length k=some j/\Q (upd H p (.lst (xs.set j v))))\/∃ H4,IX H p i v H4/\Q H4
 |_=>False
def vi (hu:X.A.units+200<cLine):Dq X iS:=by
 intro Y s U H o i v ov iv u Q I ro ri rv h;unfold iS at h
 split at h
 ·rcases h with ⟨xs,k,j,rfl,hp,hj,q⟩|⟨H4,g,q⟩
  ·exact set_list Y s U H _ _ v ov iv u Q I ro ri rv ⟨_,xs,k,j,rfl,rfl,hp,hj,q⟩
  ·cases ro;exact w9 nofun I g ri rv λs4 I4=>⟨H4,I4,q⟩
 ·exact h.elim
@[irreducible] noncomputable def Eo (K:W.Frag):V->Option Int->Option Int->Hp->VK->Prop:=λx lo hi H Q=>match x with
 | .ref a=>(∃ xs,aR K H a xs/\∀ p,H p=none->Q (.ref p) (upd H p (.lst (gE xs lo hi))))\/False
 | .str z=>False
 |_=>False
def FT:Kt X (Eo X.K):=by
 intro Y s U H x v vl vu lo hi sl Q I rx hs pl pu h;unfold Eo at h
 split at h
 ·rcases h with ⟨xs,hx,q⟩|h
  ·exact BM Y s U H _ v vl vu lo hi sl Q I rx hs pl pu ⟨_,xs,rfl,hx,q⟩
  ·exact h.elim
 ·exact h.elim
 ·exact h.elim
end
end L2
namespace L3
open PySem L2
set_option genSizeOf false
inductive Bf where
 |len|list|tuple|int|str|min|max|abs|all|any|dict
 deriving DecidableEq
inductive Lm where
 |append|extend|insert|pop|clear|reverse|count
 deriving DecidableEq
inductive Cl where
 |own (c:Nat)|ty (n:String)
mutual
inductive Ex where
 |v (i:Nat)|int (i:Int)|bl (b:Bool)|non|str (x:Str)|gl (x:Str)
 |bin (op:Operator) (a b:Ex)|neg (a:Ex)|not (a:Ex)|and (a b:Ex)|or (a b:Ex)
 |cmp (op:CmpOp) (a b:Ex)|cmp2 (o1 o2:CmpOp) (a b c:Ex)|cmp3 (o1 o2 o3:CmpOp) (a b c d:Ex)
 |ife (c:Tx) (a b:Ex)|tup (es:gC)|lst (es:gC)|ix (a i:Ex)|sl (a:Ex) (lo hi:KJ)
 |fld (a:Ex) (f:Str)|call (f:Nat) (es:gC)|meth (a:Ex) (m:Str) (es:gC)|lm (m:Lm) (a:Ex) (es:gC)|make (c:Nat) (es:gC)|bini (es:gC)|cini (c:Nat) (es:gC)
 |bf (b:Bf) (es:gC)|isi (a:Ex) (c:Cl)|lc (elt:Ex) (sel:List Nat) (it:GF)|lci (elt:Ex) (c:Tx) (sel:List Nat) (it:GF)|lct (elt:Ex) (n:Nat) (sel:List Nat) (it:GF)|dnew|up (a:Ex)|dzip (a b:Ex)|isiT (a:Ex) (cs:List Nat)|vals (tp:Bool) (a:Ex)|vU (c:Nat)|disp (ks:List Str) (es:gC)|lix (a b:Ex)|dget (a k d:Ex)
inductive Tx where
 |not (a:Tx)|and (a b:Tx)|or (a b:Tx)|cmp (op:CmpOp) (a b:Ex)|cmp2 (o1 o2:CmpOp) (a b c:Ex)|val (e:Ex)
inductive gC where
 |nil|cons (e:Ex) (es:gC)
inductive KJ where
 |no|yes (e:Ex)
inductive GF where
 |rng1 (a:Ex)|rng2 (a b:Ex)|rng3 (a b c:Ex)|enm (a:Ex)|enf (a:Ex)|seq (a:Ex)|zip (a b:Ex)
end
inductive KP where
 |nm (i:Nat)|tp (is:List Nat)|nt (i:Nat) (is:List Nat)
mutual
inductive Sx where
 |asg (i:Nat) (e:Ex)|asgT (is:List Nat) (e:Ex)|par (is:List Nat) (es:gC)|sub (o i v:Ex)|fld (o:Ex) (f:Str) (v:Ex)
 |aug (i:Nat) (op:Operator) (e:Ex)|augS (o i:Ex) (op:Operator) (e:Ex)
 |ret (e:Ex)|retN|pass|brk|cont|expr (e:Ex)
 |ife (c:Tx) (a b:mQ)|whl (c:Tx) (b:mQ)|for (t:KP) (it:GF) (b:mQ)|rais (e:Ex)|tryx (b:mQ) (hs:BD)
inductive mQ where
 |nil|cons (s:Sx) (r:mQ)
inductive BD where
 |nil|cons (c:Nat) (i:Nat) (b:mQ) (hs:BD)
end
structure au where
 ps:List Str
 N:List Str
 dfl:List V
 body:mQ
/-- what of the text never changes. gfn,gcl:the global names of defs and classes,by number;gbl:built-in names that are not shadowed;gbi:classes of exceptions whose __init__ is the built-in one;na:class and name that no class of it has;
  me:class,name,def;ini:class,its __init__;oc,xc:plain classes,classes of exceptions;sub,subT:isinstance -/
structure Tab where
 fns:List au
 gfn:List (Str×Nat)
 gcl:List (Str×Nat)
 gbl:List Str
 gbi:List Str
 na:List (Nat×Str)
 me:List ((Nat×Str)×Nat)
 ini:List (Nat×Nat)
 ini0:List Nat
 inip:List Nat
 oc:List Nat
 xc:List Nat
 sub:List ((Nat×Nat)×Bool)
 subT:List ((Nat×String)×Bool)
 subB:List ((String×String)×Bool)
 subO:List ((String×Nat)×Bool)
 cin:List (Nat×Nat):=[]
structure Rt where
 K:W.Frag
 fad:Nat->Addr
 cad:Nat->Addr
 gl:Str->Option V
structure Gx where
 T:Tab
 R:Rt
 Ψ:Nat->Sp
 cm:Bool
@[irreducible] noncomputable def iV (c:Bool) (A B:Prop):Prop:=match c with
 |true=>A
 |false=>B
def cH (c:Bool)(A B:Prop):iV c A B=(if c=true then A else B):=by unfold iV;cases c<;>rfl
abbrev Gk (K:W.Frag)(x:V)(H:Hp)(Q:Bool->Hp->Prop):Prop:=match x with
 | .bl k=>Q k H
 |y=>∃ k,D9 K y H k/\Q k H
abbrev tyName:V->Hp->Option String
 | .non,_=>some "NoneType"
 | .bl _,_=>some "bool"
 | .int _,_=>some "int"
 | .str _,_=>some "str"
 | .ref a,H=>match H a with
  |some (.lst _)=>some "list"
  |some (.tup _)=>some "tuple"
  |some (.dK _)=>some "dict"
  |_=>none
 |_,_=>none
@[irreducible] noncomputable def mj (G:Gx) (b:Bf) (vs:List V) (H:Hp) (Q:VK):Prop:=match b with
 | .len=>∃ x n,vs=[x]/\Ki G.R.K x H n/\Q (.int n) H
 | .list=>∃ p ys,vs=[.ref p]/\(aR G.R.K H p ys\/aX G.R.K H p ys)/\∀ l,H l=none->Q (.ref l) (upd H l (.lst ys))
 | .tuple=>∃ p ys,vs=[.ref p]/\((aR G.R.K H p ys/\∀ l,H l=none->Q (.ref l) (upd H l (.tup ys)))\/(aX G.R.K H p ys/\Q (.ref p) H))
 | .int=>(∃ i,vs=[.int i]/\Q (.int i) H)\/∃ k,vs=[.bl k]/\Q (.int (if k then 1 else 0)) H
 | .str=>(∃ i,vs=[.int i]/\i.natAbs.log2<1920/\Q (.str (toString i)) H)\/∃ z,vs=[.str z]/\Q (.str z) H
 | .min=>G.cm=true/\((∃ i j,vs=[.int i,.int j]/\Q (.int (if j<i then j else i)) H)\/False)
 | .max=>G.cm=true/\∃ i j,vs=[.int i,.int j]/\Q (.int (if j>i then j else i)) H
 | .abs=>False
 | .all=>G.cm=true/\∃ p,∃ bs:List Bool,vs=[.ref p]/\aR G.R.K H p (bs.map V.bl)/\Q (.bl (bs.all id)) H
 | .any=>False
 | .dict=>∃ p kvs,vs=[.ref p]/\H p=some (.dK kvs)/\∀ l,H l=none->Q (.ref l) (upd H l (.dK kvs))
@[irreducible] noncomputable def GA (m:Lm) (p:Addr) (xs:List V) (vs:List V) (H:Hp) (Q:VK):Prop:=match m with
 | .append=>∃ y,vs=[y]/\xs.length<=10000/\Q .non (upd H p (.lst (xs++[y])))
 | .extend=>∃ b zs,vs=[.ref b]/\H b=some (.lst zs)/\xs.length+zs.length<=10000/\Q .non (upd H p (.lst (xs++zs)))
 | .insert=>∃ i y,vs=[.int i,y]/\0<=i/\i<=xs.length/\xs.length<=10000/\Q .non (upd H p (.lst (xs.take i.toNat++y::xs.drop i.toNat)))
 | .pop=>False
 | .clear=>False
 | .reverse=>False
 | .count=>False
abbrev dflt (G:Gx)(f n:Nat):List V:=match G.T.fns[f]? with
 |some d=>d.dfl.drop (n+d.dfl.length-d.ps.length)
 |none=>[]
abbrev gC.len:gC->Nat
 | .nil=>0
 | .cons _ es=>es.len+1
abbrev vm (G:Gx)(H:Hp)(a:Addr)(i:Nat):Prop:=(G.T.oc.contains i=true/\∃ dx fs,H a=some (.ins (G.R.cad i) dx fs))\/(G.T.xc.contains i=true/\∃ dx fs fr,H a=some (.exc (G.R.cad i) dx fs fr))
@[irreducible] noncomputable def mx (G:Gx) (c:Cl) (x:V) (H:Hp) (Q:VK):Prop:=match c with
 | .ty n=>(∃ t b,tyName x H=some t/\G.T.subB.lookup (t,n)=some b/\Q (.bl b) H)\/∃ a i b,x=.ref a/\vm G H a i/\G.T.subT.lookup (i,n)=some b/\Q (.bl b) H
 | .own j=>(∃ t b,tyName x H=some t/\G.T.subO.lookup (t,j)=some b/\Q (.bl b) H)\/∃ a i b,x=.ref a/\vm G H a i/\G.T.sub.lookup (i,j)=some b/\Q (.bl b) H
abbrev anyS (G:Gx)(i:Nat):List Nat->Option Bool
 | []=>some false
 |c::r=>match G.T.sub.lookup (i,c) with
  |some true=>some true
  |some false=>anyS G i r
  |none=>none
abbrev IQ (G:Gx)(t:String):List Nat->Option Bool
 | []=>some false
 |c::r=>match G.T.subO.lookup (t,c) with
  |some true=>some true
  |some false=>IQ G t r
  |none=>none
@[irreducible] noncomputable def Iy (G:Gx) (cs:List Nat) (x:V) (H:Hp) (Q:VK):Prop:=(∃ t b,tyName x H=some t/\IQ G t cs=some b/\Q (.bl b) H)\/∃ a i b,x=.ref a/\vm G H a i/\anyS G i cs=some b/\Q (.bl b) H
@[irreducible] noncomputable def sV (G:Gx) (f:Str) (x:V) (H:Hp) (Q:VK):Prop:=∃ a i fs v,x=.ref a/\((G.T.oc.contains i=true/\∃ dx,H a=some (.ins (G.R.cad i) dx fs))\/(G.T.xc.contains i=true/\∃ dx fr,H a=some (.exc (G.R.cad i) (some dx) fs fr)))/\
 G.T.na.contains (i,f)=true/\fs.lookup f=some v/\Q v H
@[irreducible] noncomputable def BJ (G:Gx) (f:Str) (x y:V) (H:Hp) (Q:Hp->Prop):Prop:=∃ a i,x=.ref a/\G.T.na.contains (i,f)=true/\
 ((∃ dx fs,G.T.oc.contains i=true/\H a=some (.ins (G.R.cad i) dx fs)/\fs.length<1000/\Q (upd H a (.ins (G.R.cad i) dx (cX f y fs))))\/
  (∃ d fs fr,G.T.xc.contains i=true/\H a=some (.exc (G.R.cad i) (some d) fs fr)/\fs.length<1000/\Q (upd H a (.exc (G.R.cad i) (some d) (cX f y fs) fr)))\/
  (∃ fr,G.T.xc.contains i=true/\H a=some (.exc (G.R.cad i) none [] fr)/\∀ d,H d=none->Q (upd (upd H d (.own a)) a (.exc (G.R.cad i) (some d) [(f,y)] fr))))
abbrev Ku (op:Operator)(x y:V)(H:Hp)(Q:VK):Prop:=match op,x,y with
 | .Add,.int i,.int j=>Q (.int (i+j)) H
 | .Sub,.int i,.int j=>Q (.int (i-j)) H
 |_,_,_=>False
@[irreducible] noncomputable def zM (K:W.Frag) (x y:V) (H:Hp) (Q:VK):Prop:=match x,y with
 | .ref p,.int i=>∃ xs v,aR K H p xs/\0<=i/\xs[i.toNat]? =some v/\Q v H
 |_,_=>False
abbrev xb (U:St):List Nat->List V->St
 |i::is,x::xs=>xb (U.set i (some x)) is xs
 |_,_=>U
@[irreducible] noncomputable def M4 (x:V) (H:Hp) (Q:VK):Prop:=∃ z,x=.str z/\z.length<=100000/\∀ z':Str,z'.length<=3*z.length->Q (.str z') H
@[irreducible] noncomputable def CM (xs:List V) (H:Hp) (Q:VK):Prop:=xs.length<=10000/\∀ p,H p=none->Q (.ref p) (upd H p (.lst xs))
@[irreducible] noncomputable def gZ (xs:List V) (H:Hp) (Q:VK):Prop:=xs.length<=10000/\∀ p,H p=none->Q (.ref p) (upd H p (.tup xs))
@[irreducible] noncomputable def newD (H:Hp) (Q:VK):Prop:=∀ p,H p=none->Q (.ref p) (upd H p (.dK []))
@[irreducible] noncomputable def D8 (l:Addr) (H:Hp) (R:It->Hp->Prop):Prop:=(∃ xs,H l=some (.lst xs))/\R (J8 l) H
@[irreducible] noncomputable def Lw (K:W.Frag) (l:Addr) (H:Hp) (R:It->Hp->Prop):Prop:=(∃ xs,aX K H l xs)/\R (MJ K l) H
@[irreducible] noncomputable def ub (K:W.Frag) (p:Addr) (H:Hp) (R:It->Hp->Prop):Prop:=((∃ xs,aR K H p xs)/\R (FV K p) H)\/((∃ xs,aX K H p xs)/\R (J0 K p) H)
@[irreducible] noncomputable def BW (K:W.Frag) (x y:V) (H:Hp) (R:It->Hp->Prop):Prop:=Ju K x y H R
@[irreducible] noncomputable def rA (tp:Bool) (x:V) (H:Hp) (Q:VK):Prop:=Ey tp x H Q
@[irreducible] noncomputable def zx (C:Addr) (H:Hp) (Q:VK):Prop:=∀ x dx,H x=none->H dx=none->dx≠x->Q (.ref x) (upd (upd H dx (.own x)) x (.ins C dx []))
@[irreducible] noncomputable def IV (K:W.Frag) (x y:V) (H:Hp) (Q:VK):Prop:=MB K x y H Q
@[irreducible] noncomputable def Lu (p:Addr) (y w:V) (H:Hp) (Q:VK):Prop:=∃ kvs k,H p=some (.dK kvs)/\y=kV k/\Q ((je kvs k).getD w) H
@[irreducible] noncomputable def LQ (K:W.Frag) (p:Addr) (y:V) (H:Hp) (Q:VK):Prop:=∃ xs,∃ (e:V->Bool) (j:Nat) (x:V),H p=some (.lst xs)/\xs.length<=10000/\(∀ x ∈ xs,∃ n,n<=100/\gF K H n x y (e x))/\xs[j]? =some x/\e x=true/\(∀ (m:Nat) x,m<j->xs[m]? =some x->e x=false)/\Q (.int (j:Int)) H
@[irreducible] noncomputable def yQ (te:TE) (J:It) (σ₀:St) (H1:Hp) (Q:VK):Prop:=LC te J σ₀ H1 Q
def Ap: @yQ= @LC:=by
 funext te J U H Q
 unfold yQ
 rfl
@[irreducible] noncomputable def Kw (tc:TT) (te:TE) (J:It) (σ₀:St) (H1:Hp) (Q:VK):Prop:=LCg (gT 0) tc te J σ₀ H1 Q
def Hm: @Kw= @LCg (gT 0):=by
 funext tc te J U H Q
 unfold Kw
 rfl
abbrev gl (is:List Nat):BI:=λvs U H Q=>vs.length=is.length/\Q (xb U is vs) H
@[irreducible] noncomputable def LCt (K:W.Frag) (n:Nat) (te:TE) (J:It) (σ₀:St) (H1:Hp) (Q:VK):Prop:=LCg (C0 K n (gl (List.range n))) yes te J σ₀ H1 Q
def yW {K:W.Frag}{n:Nat}:LCt K n=LCg (C0 K n (gl (List.range n))) yes:=by
 funext te J U H Q
 unfold LCt
 rfl
abbrev HX:List Str->List V->List (Key×V)
 |k::ks,x::xs=>(.inr k,x)::HX ks xs
 |_,_=>[]
@[irreducible] noncomputable def uU (ks:List Str) (p:Addr) (xs:List V) (H:Hp) (Q:VK):Prop:=H p=some (.dK [])/\Q (.ref p) (upd H p (.dK (jc [] (HX ks xs))))
mutual
noncomputable def wE (G:Gx):Ex->St->Hp->VK->XK->Prop
 | .v i,U,H,Q,_=>match U[i]? with
  |some (some x)=>Q x H
  |_=>False
 | .int i,_,H,Q,_=>Q (.int i) H
 | .bl b,_,H,Q,_=>Q (.bl b) H
 | .non,_,H,Q,_=>Q .non H
 | .str x,_,H,Q,_=>Q (.str x) H
 | .gl x,_,H,Q,_=>match G.R.gl x with
  |some v=>Q v H
  |none=>False
 | .bin op a b,U,H,Q,E=>wE G a U H (λx H1=>wE G b U H1 (λy H2=>GK G.R.K op x y H2 Q) E) E
 | .neg a,U,H,Q,E=>wE G a U H (λx H1=>match x with| .int i=>Q (.int (-i)) H1|_=>False) E
 | .not a,U,H,Q,E=>wE G a U H (λx H1=>match x with| .bl c=>Q (.bl (!c)) H1|_=>False) E
 | .and a b,U,H,Q,E=>wE G a U H (λx H1=>match x with| .bl c=>iV c (wE G b U H1 Q E) (Q (.bl false) H1)|_=>False) E
 | .or a b,U,H,Q,E=>wE G a U H (λx H1=>match x with| .bl c=>iV c (Q (.bl true) H1) (wE G b U H1 Q E)|_=>False) E
 | .cmp op a b,U,H,Q,E=>wE G a U H (λx H1=>wE G b U H1 (λy H2=>lr G.R.K op x y H2 Q) E) E
 | .cmp2 o1 o2 a b c,U,H,Q,E=>wE G a U H (λx H1=>wE G b U H1 (λy H2=>lr G.R.K o1 x y H2 λz H3=>match z with| .bl k=>iV k (wE G c U H3 (λw H4=>lr G.R.K o2 y w H4 Q) E) (Q (.bl false) H3)|_=>False) E) E
 | .cmp3 o1 o2 o3 a b c d,U,H,Q,E=>wE G a U H (λx H1=>wE G b U H1 (λy H2=>lr G.R.K o1 x y H2 λz H3=>match z with| .bl k=>iV k (wE G c U H3 (λw H4=>lr G.R.K o2 y w H4 λz' H5=>match z' with| .bl k'=>iV k' (wE G d U H5 (λw2 H6=>lr G.R.K o3 w w2 H6 Q) E) (Q (.bl false) H5)|_=>False) E) (Q (.bl false) H3)|_=>False) E) E
 | .ife c a b,U,H,Q,E=>wT G c U H (λk H1=>iV k (wE G a U H1 Q E) (wE G b U H1 Q E)) E
 | .tup es,U,H,Q,E=>wEs G es U H (λxs H1=>gZ xs H1 Q) E
 | .lst es,U,H,Q,E=>wEs G es U H (λxs H1=>CM xs H1 Q) E
 | .ix a i,U,H,Q,E=>wE G a U H (λx H1=>wE G i U H1 (λy H2=>qP G.R.K x y H2 Q) E) E
 | .sl a lo hi,U,H,Q,E=>wE G a U H (λx H1=>wO G lo U H1 (λl H2=>wO G hi U H2 (λu H3=>Eo G.R.K x l u H3 Q) E) E) E
 | .fld a f,U,H,Q,E=>wE G a U H (λx H1=>sV G f x H1 Q) E
 | .call f es,U,H,Q,E=>G.cm=true/\wEs G es U H (λvs H1=>G.Ψ f (vs++dflt G f es.len) H1 Q E) E
 | .meth a m es,U,H,Q,E=>G.cm=true/\wE G a U H (λx H1=>∃ p i dx fs f,x=.ref p/\H1 p=some (.ins (G.R.cad i) dx fs)/\fs.lookup m=none/\G.T.me.lookup (i,m)=some f/\
   wEs G es U H1 (λvs H2=>G.Ψ f (x::(vs++dflt G f (es.len+1))) H2 Q E) E) E
 | .lm m a es,U,H,Q,E=>wE G a U H (λx H1=>∃ p xs0,x=.ref p/\H1 p=some (.lst xs0)/\wEs G es U H1 (λvs H2=>∃ xs,H2 p=some (.lst xs)/\GA m p xs vs H2 Q) E) E
 | .make c es,U,H,Q,E=>G.cm=true/\match G.T.ini.lookup c with
  |none=>G.T.ini0.contains c=true/\wEs G es U H (λvs H1=>vs.length=1/\∀ x,H1 x=none->Q (.ref x) (upd H1 x (.exc (G.R.cad c) none [] true))) E
  |some f=>if G.T.xc.contains c=true then wEs G es U H (λvs H1=>vs.length<=1000/\∀ x,H1 x=none->G.Ψ f (.ref x::(vs++dflt G f (es.len+1))) (upd H1 x (.exc (G.R.cad c) none [] true)) (λv H2=>v=.non/\Q (.ref x) H2) E) E
   else wEs G es U H (λvs H1=>∀ x dx,H1 x=none->H1 dx=none->dx≠x->G.Ψ f (.ref x::(vs++dflt G f (es.len+1))) (upd (upd H1 dx (.own x)) x (.ins (G.R.cad c) dx [])) (λv H2=>v=.non/\Q (.ref x) H2) E) E
 | .bini es,U,H,Q,E=>wEs G es U H (λvs H1=>∃ a i dx fs fr v,vs=[.ref a,v]/\H1 a=some (.exc (G.R.cad i) dx fs fr)/\G.T.xc.contains i=true/\Q .non H1) E
 | .cini c es,U,H,Q,E=>G.cm=true/\match G.T.cin.lookup c with
  |some f=>wEs G es U H (λvs H1=>G.Ψ f (vs++dflt G f es.len) H1 Q E) E
  |none=>False
 | .bf b es,U,H,Q,E=>wEs G es U H (λvs H1=>mj G b vs H1 Q) E
 | .isi a c,U,H,Q,E=>wE G a U H (λx H1=>mx G c x H1 Q) E
 | .lc elt sel it,U,H,Q,E=>G.cm=true/\wI G it U H (λJ H1=>yQ (λσ' H' Q'=>wE G elt σ' H' Q' (λ_ _=>False)) J (none::gH U sel) H1 Q) E
 | .lci elt c sel it,U,H,Q,E=>G.cm=true/\wI G it U H (λJ H1=>Kw (λσ' H' Q'=>wT G c σ' H' Q' (λ_ _=>False)) (λσ' H' Q'=>wE G elt σ' H' Q' (λ_ _=>False)) J (none::gH U sel) H1 Q) E
 | .lct elt n sel it,U,H,Q,E=>G.cm=true/\wI G it U H (λJ H1=>LCt G.R.K n (λσ' H' Q'=>wE G elt σ' H' Q' (λ_ _=>False)) J (sK n none++gH U sel) H1 Q) E
 | .dnew,_,H,Q,_=>newD H Q
 | .up a,U,H,Q,E=>wE G a U H (λx H1=>M4 x H1 Q) E
 | .isiT a cs,U,H,Q,E=>wE G a U H (λx H1=>∀ p,H1 p=none->Iy G cs x (upd H1 p (.tup (cs.map λc=>.ref (G.R.cad c)))) Q) E
 | .vU c,_,H,Q,_=>zx (G.R.cad c) H Q
 | .disp ks es,U,H,Q,E=>∀ p,H p=none->wEs G es U (upd H p (.dK [])) (λxs H2=>uU ks p xs H2 Q) E
 | .dget a k d,U,H,Q,E=>wE G a U H (λx H1=>∃ p kvs0,x=.ref p/\H1 p=some (.dK kvs0)/\wE G k U H1 (λy H2=>wE G d U H2 (λw H3=>Lu p y w H3 Q) E) E) E
 | .lix a b,U,H,Q,E=>wE G a U H (λx H1=>∃ p xs0,x=.ref p/\H1 p=some (.lst xs0)/\wE G b U H1 (λy H2=>LQ G.R.K p y H2 Q) E) E
 | .vals tp a,U,H,Q,E=>G.cm=true/\wE G a U H (λx H1=>rA tp x H1 Q) E
 | .dzip a b,U,H,Q,E=>G.cm=true/\wE G a U H (λx H1=>wE G b U H1 (λy H2=>IV G.R.K x y H2 Q) E) E
noncomputable def wT (G:Gx):Tx->St->Hp->(Bool->Hp->Prop)->XK->Prop
 | .not a,U,H,Q,E=>wT G a U H (λc H1=>Q (!c) H1) E
 | .and a b,U,H,Q,E=>wT G a U H (λc H1=>iV c (wT G b U H1 Q E) (Q false H1)) E
 | .or a b,U,H,Q,E=>wT G a U H (λc H1=>iV c (Q true H1) (wT G b U H1 Q E)) E
 | .cmp op a b,U,H,Q,E=>wE G a U H (λx H1=>wE G b U H1 (λy H2=>lr G.R.K op x y H2 λz H3=>match z with| .bl k=>Q k H3|_=>False) E) E
 | .cmp2 o1 o2 a b c,U,H,Q,E=>wE G a U H (λx H1=>wE G b U H1 (λy H2=>lr G.R.K o1 x y H2 λz H3=>match z with| .bl k=>iV k (wE G c U H3 (λw H4=>lr G.R.K o2 y w H4 λz H5=>match z with| .bl k=>Q k H5|_=>False) E) (Q false H3)|_=>False) E) E
 | .val e,U,H,Q,E=>wE G e U H (λx H1=>Gk G.R.K x H1 Q) E
noncomputable def wEs (G:Gx):gC->St->Hp->(List V->Hp->Prop)->XK->Prop
 | .nil,_,H,Q,_=>Q [] H
 | .cons e es,U,H,Q,E=>wE G e U H (λx H1=>wEs G es U H1 (λxs H2=>Q (x::xs) H2) E) E
noncomputable def wO (G:Gx):KJ->St->Hp->(Option Int->Hp->Prop)->XK->Prop
 | .no,_,H,Q,_=>Q none H
 | .yes e,U,H,Q,E=>wE G e U H (λx H1=>match x with| .int i=>Q (some i) H1|_=>False) E
noncomputable def wI (G:Gx):GF->St->Hp->(It->Hp->Prop)->XK->Prop
 | .rng1 a,U,H,R,E=>wE G a U H (λx H1=>match x with| .int j=>-(2 ^ 62)<=j/\j<2 ^ 62/\R (E3 0 j.toNat) H1|_=>False) E
 | .rng2 a b,U,H,R,E=>wE G a U H (λx H1=>wE G b U H1 (λy H2=>match x,y with| .int i,.int j=>(-(2 ^ 62)<=i/\i<2 ^ 62/\ -(2 ^ 62)<=j/\j<2 ^ 62)/\R (E3 i (j-i).toNat) H2|_,_=>False) E) E
 | .rng3 a b c,U,H,R,E=>wE G a U H (λx H1=>wE G b U H1 (λy H2=>wE G c U H2 (λw H3=>match x,y with| .int i,.int j=>w=.int (-1)/\(-(2 ^ 62)<=i/\i<2 ^ 62/\ -(2 ^ 62)<=j/\j<2 ^ 62)/\R (MZ i (i-j).toNat) H3|_,_=>False) E) E) E
 | .enm a,U,H,R,E=>wE G a U H (λx H1=>match x with| .ref l=>D8 l H1 R|_=>False) E
 | .enf a,U,H,R,E=>wE G a U H (λx H1=>match x with| .ref l=>Lw G.R.K l H1 R|_=>False) E
 | .seq a,U,H,R,E=>wE G a U H (λx H1=>match x with| .ref p=>ub G.R.K p H1 R|_=>False) E
 | .zip a b,U,H,R,E=>wE G a U H (λx H1=>wE G b U H1 (λy H2=>BW G.R.K x y H2 R) E) E
end
abbrev LU (D:Ends)(f:St->Hp->Prop):Ends:={ D with nx:=f }
abbrev Eg (D:Ends)(N:St->Hp->Prop):Ends:={ D with nx:=N,ct:=N,bk:=D.nx }
abbrev MK (D:Ends)(i:Nat):Ends:={ nx:=λσ' H'=>D.nx (σ'.set i none) H',rt:=D.rt,bk:=λσ' H'=>D.bk (σ'.set i none) H',ct:=λσ' H'=>D.ct (σ'.set i none) H' }
abbrev wG (U:St)(t:KP)(K:W.Frag)(x:V)(H:Hp)(Q:St->Prop):Prop:=match t with
 | .nm i=>Q (U.set i (some x))
 | .tp is=>∃ a xs,x=.ref a/\(aX K H a xs\/aR K H a xs)/\xs.length=is.length/\Q (xb U is xs)
 | .nt i is=>∃ a y b ys,x=.ref a/\aX K H a [y,.ref b]/\aX K H b ys/\ys.length=is.length/\Q (xb (U.set i (some y)) is ys)
@[irreducible] noncomputable def mK (J:It) (D:Ends) (F:(St->Hp->Prop)->V->St->Hp->Prop) (U:St) (H1:Hp):Prop:=∃ W:Nat->Nat->St->Hp->Prop,(∃ m,W 0 m U H1)/\∀ i m U H,W i m U H->
 (J.stop i H/\D.nx U H)\/(J.go i H/\∃ N:St->Hp->Prop,(∀ σ' H',N σ' H'->∃ m',m'<m/\W (i+1) m' σ' H')/\∀ x H',J.yld i H x H'->F N x U H')
mutual
noncomputable def wS:Sx->Gx->Ends->(St->XK)->St->Hp->Prop
 | .asg i e,G,D,E,U,H=>wE G e U H (λx H1=>D.nx (U.set i (some x)) H1) (E U)
 | .asgT is e,G,D,E,U,H=>G.cm=true/\wE G e U H (λx H1=>wG U (.tp is) G.R.K x H1 λσ1=>D.nx σ1 H1) (E U)
 | .par is es,G,D,E,U,H=>G.cm=true/\wEs G es U H (λxs H1=>xs.length=is.length/\D.nx (xb U is xs) H1) (E U)
 | .sub o i v,G,D,E,U,H=>wE G v U H (λy H1=>wE G o U H1 (λov H2=>wE G i U H2 (λiv H3=>iS ov iv y H3 (λH4=>D.nx U H4)) (E U)) (E U)) (E U)
 | .fld o f v,G,D,E,U,H=>wE G v U H (λy H1=>wE G o U H1 (λx H2=>BJ G f x y H2 (λH3=>D.nx U H3)) (E U)) (E U)
 | .aug i op e,G,D,E,U,H=>(match U[i]? with|some (some x)=>wE G e U H (λy H1=>Ku op x y H1 λz H2=>D.nx (U.set i (some z)) H2) (E U)|_=>False)
 | .augS o i op e,G,D,E,U,H=>wE G o U H (λov H1=>wE G i U H1 (λiv H2=>zM G.R.K ov iv H2 (λx H3=>wE G e U H3 (λy H4=>Ku op x y H4 (λz H5=>iS ov iv z H5 (λH6=>D.nx U H6))) (E U))) (E U)) (E U)
 | .ret e,G,D,E,U,H=>wE G e U H D.rt (E U)
 | .retN,_,D,_,_,H=>D.rt .non H
 | .pass,_,D,_,U,H=>D.nx U H
 | .brk,_,D,_,U,H=>D.bk U H
 | .cont,_,D,_,U,H=>D.ct U H
 | .expr e,G,D,E,U,H=>wE G e U H (λ_ H1=>D.nx U H1) (E U)
 | .ife c a b,G,D,E,U,H=>wT G c U H (λk H1=>iV k (wB a G D E U H1) (wB b G D E U H1)) (E U)
 | .whl c b,G,D,E,U,H=>∃ W:Nat->St->Hp->Prop,(∃ m,W m U H)/\∀ m U H,W m U H->wT G c U H (λk H1=>iV k (∃ N:St->Hp->Prop,(∀ σ' H',N σ' H'->∃ m',m'<m/\W m' σ' H')/\wB b G (Eg D N) E U H1) (D.nx U H1)) (E U)
 | .for t it b,G,D,E,U,H=>G.cm=true/\wI G it U H (λJ H1=>mK J D (λN x U H'=>wG U t G.R.K x H' λσ2=>wB b G (Eg D N) E σ2 H') U H1) (E U)
 | .rais e,G,_,E,U,H=>G.cm=true/\wE G e U H (λv H1=>∃ a i dx fs,v=.ref a/\H1 a=some (.exc (G.R.cad i) dx fs true)/\G.T.xc.contains i=true/\E U a (upd H1 a (.exc (G.R.cad i) dx fs false))) (E U)
 | .tryx b hs,G,D,_,U,H=>G.cm=true/\wB b G D (λσ' e H'=>wH hs G D σ' e H') U H
noncomputable def wB:mQ->Gx->Ends->(St->XK)->St->Hp->Prop
 | .nil,_,D,_,U,H=>D.nx U H
 | .cons s r,G,D,E,U,H=>wS s G (LU D λσ1 H1=>wB r G D E σ1 H1) E U H
noncomputable def wH:BD->Gx->Ends->St->Addr->Hp->Prop
 | .nil,_,_,_,_,_=>False
 | .cons c i b hs,G,D,U,e,H=>∃ j dx fs k,H e=some (.exc (G.R.cad j) dx fs false)/\G.T.xc.contains j=true/\G.T.sub.lookup (j,c)=some k/\
   iV k (wB b { G with cm:=false } (MK D i) (λ_ _ _=>False) (U.set i (some (.ref e))) H)
    (wH hs G D U e H)
end
end L3
namespace L3
open PySem PySem.Spec L2 PyProof.Rows
structure Sn where
 T:Tab
 sc:Scope
 N:List Str
abbrev Sn.nX (S:Sn)(x:Str):Bool:=decide (S.sc.names.lookup x=some .globalImplicit)&& !(x ==("__debug__":Str))
abbrev Sn.FY (S:Sn)(x:Str):Bool:=(decide (S.sc.names.lookup x=some .local)||decide (S.sc.names.lookup x=some .cell)||decide (S.sc.names.lookup x=some .free))&& !(x ==("__debug__":Str))&& !(x ==("__classdict__":Str))
abbrev Sn.loc (S:Sn)(i:Nat)(x:Str):Bool:=decide (S.N[i]? =some x)&&(decide (S.sc.names.lookup x=some .local)||decide (S.sc.names.lookup x=some .cell))
abbrev ux:Expr->Bool
 | .ListComp .. | .SetComp .. | .DictComp ..=>false
 |_=>true
abbrev cU:Expr->Bool
 | .Set ..=>false
 |_=>true
abbrev fJ:Expr->Bool
 | .Slice ..=>false
 |_=>true
abbrev fH:Expr->Bool
 | .Call (.Name _ _) [] [] _=>false
 |_=>true
abbrev plainT:Expr->Bool
 | .UnaryOp .Not _ _| .BoolOp .. | .IfExp .. | .Compare ..=>false
 |_=>true
abbrev AA:Bf->String
 | .len=>"len"| .list=>"list"| .tuple=>"tuple"| .int=>"int"| .str=>"str"| .min=>"min"| .max=>"max"| .abs=>"abs"| .all=>"all"| .any=>"any"| .dict=>"dict"
abbrev zC:Lm->String
 | .append=>"append"| .extend=>"extend"| .insert=>"insert"| .pop=>"pop"| .clear=>"clear"| .reverse=>"reverse"| .count=>"count"
abbrev kg:List String:=["int","bool","str","list","tuple","dict","ValueError"]
abbrev BL (S:Sn):Cl->Expr->Bool
 | .own c,.Name x _=>S.nX x&&decide (S.T.gcl.lookup x=some c)
 | .ty n,.Name x _=>S.nX x&&decide (x=(n:Str))&&S.T.gbl.contains x&&kg.contains n
 |_,_=>false
abbrev dQ (outer inner:Scope):Scope:=
 { inner with names:=inner.names.map λ(n,k)=>if (k ==.free&&outer.kind ==.function&&outer.names.lookup n ==some .cell) then (n,.cell) else (n,k) }
abbrev gz (S:Sn)(scope:Scope)(xs:List Str)(sel:List Nat):Bool:=
 decide (scope.kind=.function)&&decide (S.sc.kind=.function)&&scope.names.all (λy=>y.2 != .cell&&(y.2 != .local||decide (scope.names.lookup y.1=some .local))&&(y.2 != .free||(decide (S.sc.names.lookup y.1=some .cell))))&&xs.all (λx=>decide (scope.names.lookup x=some .local))&&
 sel.all (λi=>match S.N[i]? with|some y=>decide (S.sc.names.lookup y=some .cell)&&decide ((dQ S.sc scope).names.lookup y=some .cell)|none=>false)&&decide ((xs++sel.filterMap λi=>S.N[i]?).Nodup)
abbrev Dl:List Expr->List Str
 | .Name x _::r=>x::Dl r
 |_=>[]
abbrev ye (S:Sn):List Nat->List Expr->Bool
 | [],[]=>true
 |i::is,.Name x _::r=>decide (S.N[i]? =some x)&&decide (S.sc.names.lookup x=some .local)&&ye S is r
 |_,_=>false
abbrev oA:List Str->List (Option Expr)->Bool
 | [],[]=>true
 |k::ks,some (.Constant (.str x) _ _)::r=>decide (k=x)&&oA ks r
 |_,_=>false
mutual
noncomputable def mE (S:Sn):Ex->Expr->Bool
 | .v i,e=>match e with| .Name x _=>decide (S.N[i]? =some x)&&S.FY x|_=>false
 | .int i,e=>match e with| .Constant y1 _ _=>(match y1 with| .int j=>decide (i=j)|_=>false)|_=>false
 | .bl i,e=>match e with| .Constant y1 _ _=>(match y1 with| .bool j=>decide (i=j)|_=>false)|_=>false
 | .non,e=>match e with| .Constant y1 _ _=>(match y1 with| .none=>true|_=>false)|_=>false
 | .str i,e=>match e with| .Constant y1 _ _=>(match y1 with| .str j=>decide (i=j)|_=>false)|_=>false
 | .gl x,e=>match e with| .Name y _=>decide (x=y)&&S.nX y|_=>false
 | .bin op a b,e=>match e with| .BinOp a' op' b' _=>decide (op=op')&&mE S a a'&&mE S b b'|_=>false
 | .neg a,e=>match e with| .UnaryOp y1 a' _=>(match y1 with| .USub=>mE S a a'|_=>false)|_=>false
 | .not a,e=>match e with| .UnaryOp y1 a' _=>(match y1 with| .Not=>mE S a a'|_=>false)|_=>false
 | .and a b,e=>match e with| .BoolOp y1 y2 p=>(match y1 with| .And=>(match y2 with|a'::b'::r=>mE S a a'&&mE S b (match r with| []=>b'|_=>.BoolOp .And (b'::r) p)|_=>false)|_=>false)|_=>false
 | .or a b,e=>match e with| .BoolOp y1 y2 p=>(match y1 with| .Or=>(match y2 with|a'::b'::r=>mE S a a'&&mE S b (match r with| []=>b'|_=>.BoolOp .Or (b'::r) p)|_=>false)|_=>false)|_=>false
 | .cmp op a b,e=>match e with| .Compare a' y1 y2 _=>(match y1 with| [op']=>(match y2 with| [b']=>decide (op=op')&&mE S a a'&&mE S b b'&&cU b'|_=>false)|_=>false)|_=>false
 | .cmp2 o1 o2 a b c,e=>match e with| .Compare a' y1 y2 _=>(match y1 with| [p1,p2]=>(match y2 with| [b',c']=>decide (o1=p1)&&decide (o2=p2)&&mE S a a'&&mE S b b'&&mE S c c'&&cU c'|_=>false)|_=>false)|_=>false
 | .cmp3 o1 o2 o3 a b c d,e=>match e with| .Compare a' y1 y2 _=>(match y1 with| [p1,p2,p3]=>(match y2 with| [b',c',d']=>decide (o1=p1)&&decide (o2=p2)&&decide (o3=p3)&&mE S a a'&&mE S b b'&&mE S c c'&&mE S d d'&&cU d'|_=>false)|_=>false)|_=>false
 | .ife c a b,e=>match e with| .IfExp c' a' b' _=>mT S c c'&&mE S a a'&&mE S b b'|_=>false
 | .tup es,e=>match e with| .Tuple es' _ _=>jm S es es'|_=>false
 | .lst es,e=>match e with| .List es' _=>jm S es es'|_=>false
 | .ix a i,e=>match e with| .Subscript a' i' _=>mE S a a'&&mE S i i'&&fJ i'|_=>false
 | .sl a lo hi,e=>match e with| .Subscript a' y1 _=>(match y1 with| .Slice lo' hi' y2 _=>(match y2 with|none=>mE S a a'&&mO S lo lo'&&mO S hi hi'|_=>false)|_=>false)|_=>false
 | .fld a f,e=>match e with| .Attribute a' f' _=>mE S a a'&&decide (f=f')&&fH a'|_=>false
 | .call f es,e=>match e with| .Call y1 es' y2 _=>(match y1 with| .Name x _=>(match y2 with| []=>S.nX x&&decide (S.T.gfn.lookup x=some f)&&jm S es es'|_=>false)|_=>false)|_=>false
 | .meth a m es,e=>match e with| .Call y1 es' y2 q=>(match y1 with| .Attribute a' m' p=>(match y2 with| []=>mE S a a'&&decide (m=m')&&jm S es es'&&fH a'&&(p.endLine ==q.line)&&decide (es.len<20)|_=>false)|_=>false)|_=>false
 | .dget a k d,_=>false
 | .lix a b,_=>false
 | .lm m a es,e=>match e with| .Call y1 es' y2 q=>(match y1 with| .Attribute a' m' p=>(match y2 with| []=>mE S a a'&&decide (m'=(zC m:Str))&&jm S es es'&&fH a'&&(p.endLine ==q.line)&&decide (es.len<20)|_=>false)|_=>false)|_=>false
 | .make c es,e=>match e with| .Call y1 es' y2 _=>(match y1 with| .Name x _=>(match y2 with| []=>S.nX x&&decide (S.T.gcl.lookup x=some c)&&jm S es es'|_=>false)|_=>false)|_=>false
 | .bini es,e=>match e with| .Call y1 es' y2 q=>(match y1 with| .Attribute y3 m p=>(match y3 with| .Name x _=>(match y2 with| []=>S.nX x&&decide (m=("__init__":Str))&&S.T.gbi.contains x&&jm S es es'&&decide (es.len=2)&&(p.endLine ==q.line)|_=>false)|_=>false)|_=>false)|_=>false
 | .cini c es,_=>false
 | .bf b es,e=>match e with| .Call y1 es' y2 _=>(match y1 with| .Name x _=>(match y2 with| []=>S.nX x&&decide (x=(AA b:Str))&&S.T.gbl.contains x&&jm S es es'&&decide (0<es.len)|_=>false)|_=>false)|_=>false
 | .isi a c,e=>match e with| .Call y1 y2 y3 _=>(match y1 with| .Name x _=>(match y3 with| []=>(match y2 with| [a',c']=>S.nX x&&decide (x=("isinstance":Str))&&S.T.gbl.contains x&&mE S a a'&&BL S c c'|_=>false)|_=>false)|_=>false)|_=>false
 | .lc elt sel it,e=>match e with| .ListComp elt' y1 scope _=>(match y1 with| [y2]=>(match y2 with|⟨y3,iter,y4,y5⟩=>(match y3 with| .Name x px=>(match y4 with| []=>(match y5 with|0=>gz S scope [x] sel&&mI S it (.Name x px) iter&&mE { S with sc:=dQ S.sc scope,N:=x::sel.filterMap λi=>S.N[i]? } elt elt'&&cU iter|_=>false)|_=>false)|_=>false))|_=>false)|_=>false
 | .lci elt c sel it,_=>false
 | .lct elt n sel it,e=>match e with| .ListComp elt' y1 scope _=>(match y1 with| [y2]=>(match y2 with|⟨y3,iter,y4,y5⟩=>(match y3 with| .Tuple ts kt pt=>(match y4 with| []=>(match y5 with|0=>gz S scope (Dl ts) sel&&ye { S with sc:=dQ S.sc scope,N:=Dl ts++sel.filterMap λi=>S.N[i]? } (List.range n) ts&&decide ((Dl ts).length=n)&&mI S it (.Tuple ts kt pt) iter&&mE { S with sc:=dQ S.sc scope,N:=Dl ts++sel.filterMap λi=>S.N[i]? } elt elt'&&cU iter|_=>false)|_=>false)|_=>false))|_=>false)|_=>false
 | .dnew,_=>false
 | .up a,_=>false
 | .isiT a cs,_=>false
 | .vU c,e=>match e with| .Call y1 y2 y3 _=>(match y1 with| .Name x _=>(match y2 with| []=>(match y3 with| []=>S.nX x&&decide (S.T.gcl.lookup x=some c)&&S.T.inip.contains c|_=>false)|_=>false)|_=>false)|_=>false
 | .disp ks es,e=>match e with| .Dict keys vals _=>oA ks keys&&jm S es vals&&decide (es.len=ks.length)&&decide (0<ks.length)&&decide (ks.length<=15)|_=>false
 | .vals tp a,e=>match e with| .Call y1 y2 y3 _=>(match y1 with| .Name x _=>(match y3 with| []=>(match y2 with| [y4]=>(match y4 with| .Call y5 y6 y7 q=>(match y5 with| .Attribute a' m p=>(match y6 with| []=>(match y7 with| []=>S.nX x&&decide (x=C3 tp)&&S.T.gbl.contains x&&mE S a a'&&decide (m=("values":Str))&&fH a'&&(p.endLine ==q.line)|_=>false)|_=>false)|_=>false)|_=>false)|_=>false)|_=>false)|_=>false)|_=>false
 | .dzip a b,e=>match e with| .Call y1 y2 y3 _=>(match y1 with| .Name x _=>(match y3 with| []=>(match y2 with| [y4]=>(match y4 with| .Call y5 y6 y7 _=>(match y5 with| .Name y _=>(match y7 with| []=>(match y6 with| [a',b']=>S.nX x&&decide (x=("dict":Str))&&S.T.gbl.contains x&&S.nX y&&decide (y=("zip":Str))&&S.T.gbl.contains y&&mE S a a'&&mE S b b'&&notStar a'&&notStar b'|_=>false)|_=>false)|_=>false)|_=>false)|_=>false)|_=>false)|_=>false)|_=>false
noncomputable def mT (S:Sn):Tx->Expr->Bool
 | .not a,e=>match e with| .UnaryOp y1 a' _=>(match y1 with| .Not=>mT S a a'|_=>false)|_=>false
 | .and a b,e=>match e with| .BoolOp y1 y2 p=>(match y1 with| .And=>(match y2 with|a'::b'::r=>mT S a a'&&mT S b (match r with| []=>b'|_=>.BoolOp .And (b'::r) p)|_=>false)|_=>false)|_=>false
 | .or a b,e=>match e with| .BoolOp y1 y2 p=>(match y1 with| .Or=>(match y2 with|a'::b'::r=>mT S a a'&&mT S b (match r with| []=>b'|_=>.BoolOp .Or (b'::r) p)|_=>false)|_=>false)|_=>false
 | .cmp op a b,e=>match e with| .Compare a' y1 y2 _=>(match y1 with| [op']=>(match y2 with| [b']=>decide (op=op')&&mE S a a'&&mE S b b'&&cU b'|_=>false)|_=>false)|_=>false
 | .cmp2 o1 o2 a b c,e=>match e with| .Compare a' y1 y2 _=>(match y1 with| [p1,p2]=>(match y2 with| [b',c']=>decide (o1=p1)&&decide (o2=p2)&&mE S a a'&&mE S b b'&&mE S c c'&&cU c'|_=>false)|_=>false)|_=>false
 | .val e,e'=>mE S e e'&&plainT e'
noncomputable def jm (S:Sn):gC->List Expr->Bool
 | .nil,es=>es.isEmpty
 | .cons e es,l=>match l with|e'::es'=>mE S e e'&&notStar e'&&jm S es es'| []=>false
noncomputable def mO (S:Sn):KJ->Option Expr->Bool
 | .no,o=>o.isNone
 | .yes e,o=>match o with|some e'=>mE S e e'|none=>false
noncomputable def mI (S:Sn):GF->Expr->Expr->Bool
 | .rng1 a,_,e=>match e with| .Call y1 y2 y3 _=>(match y1 with| .Name x _=>(match y3 with| []=>(match y2 with| [a']=>S.nX x&&decide (x=("range":Str))&&S.T.gbl.contains x&&mE S a a'&&notStar a'|_=>false)|_=>false)|_=>false)|_=>false
 | .rng2 a b,_,e=>match e with| .Call y1 y2 y3 _=>(match y1 with| .Name x _=>(match y3 with| []=>(match y2 with| [a',b']=>S.nX x&&decide (x=("range":Str))&&S.T.gbl.contains x&&mE S a a'&&mE S b b'&&notStar a'&&notStar b'|_=>false)|_=>false)|_=>false)|_=>false
 | .rng3 a b c,_,e=>false
 | .enm a,t,e=>match e with| .Call y1 y2 y3 _=>(match y1 with| .Name x _=>(match y3 with| []=>(match y2 with| [a']=>S.nX x&&decide (x=("enumerate":Str))&&S.T.gbl.contains x&&mE S a a'&&notStar a'&&(match t with| .Tuple ..=>true|_=>false)|_=>false)|_=>false)|_=>false)|_=>false
 | .enf a,t,e=>false
 | .seq a,_,e=>mE S a e
 | .zip a b,t,e=>match e with| .Call y1 y2 y3 _=>(match y1 with| .Name x _=>(match y3 with| []=>(match y2 with| [a',b']=>S.nX x&&decide (x=("zip":Str))&&S.T.gbl.contains x&&mE S a a'&&mE S b b'&&notStar a'&&notStar b'&&(match t with| .Tuple ..=>true|_=>false)|_=>false)|_=>false)|_=>false)|_=>false
end
end L3
namespace L3
open PySem PySem.Spec L2
variable {e:Expr}
def plainT_ok (h:plainT e=true)(env:Env)(whole:Sem Value):isTrue e env whole=(do let v <-whole;standAt e.pos;holding [v] (truthy v)):=by
 cases e<;>first|rfl|(cases h)|skip
 case UnaryOp op a p=>cases op<;>first|rfl|cases h
def bX (h:cU e=true)(env:Env)(x:Value):foldedSetIterable e env x=pure x:=by
 cases e<;>first|rfl|cases h
def c5 (h:cU e=true)(op:CmpOp):behindInMarks op e=false:=by
 cases e<;>first|rfl|cases h
def g7 (h:ux e=true)(t:Option Expr)(n:Nat)(env:Env):swapsWith e t n env=pure false:=by
 cases e<;>first|rfl|cases h
variable {o:Expr}
def cj (h:fH o=true)(a:Str)(env:Env)(whole:Sem Value):attributeBase o a env whole=whole:=by
 cases o with
 |Call f as ks p=>
  cases f<;>first|rfl|skip
  case Name x q=>
   cases as with
   |nil=>cases ks with
    |nil=>cases h
    |cons k ks=>rfl
   |cons b bs=>rfl
 |_=>rfl
variable {b:Expr}
def tL (h:fJ b=true):vg b:=by
 intro o i;cases b<;>first|rfl|cases h
variable {X:Cx}
def PE.cn {t:TE}(h:PE X e t):PE X e (λU H R=>∃ Q,t U H Q/\∀ x H1,Q x H1->R x H1):=λY s U H R I ⟨Q,q,i⟩=>
 aC (h Y s U H Q I q) λ_ _ ⟨v,H',J,r,z⟩=>⟨v,H',J,r,i _ _ z⟩
variable {t:TT}
def PT.cn (h:PT X e t):PT X e (λU H R=>∃ Q,t U H Q/\∀ x H1,Q x H1->R x H1):=λY s U H R I ⟨Q,q,i⟩=>
 aC (h Y s U H Q I q) λ_ _ ⟨H',J,z⟩=>⟨H',J,i _ _ z⟩
def PA.cn {e:List Expr}{t:TA}(h:PA X e t):PA X e (λU H R=>∃ Q,t U H Q/\∀ x H1,Q x H1->R x H1):=λpos Y s U H R I ⟨Q,q,i⟩=>
 aC (h pos Y s U H Q I q) λ_ _ ⟨v,H',J,r,z⟩=>⟨v,H',J,r,i _ _ z⟩
def PE.imp {t t':TE}(h:PE X e t)(hi:∀ U H Q,t' U H Q->t U H Q):PE X e t':=λY s U H Q I q=>h Y s U H Q I (hi _ _ _ q)
def PT.imp {t':TT}(h:PT X e t)(hi:∀ U H Q,t' U H Q->t U H Q):PT X e t':=λY s U H Q I q=>h Y s U H Q I (hi _ _ _ q)
def PS.imp {e:Stmt}{t t':TS}(h:PS X e t)(hi:∀ D U H,t' D U H->t D U H):PS X e t':=λY s U H D I q=>h Y s U H D I (hi _ _ _ q)
structure zK (P:Program) (w:World) (K:W.Frag) (mg:NF) (base:Heap) (k:Nat) (f:Addr) (d:au) (sp:Sp):Prop where
 fact:∃ fd,dm P w K mg base (yP P w) k f fd d.ps sp/\∀ j,∃ ds,Binds K fd d.ps ds/\Vals (d.dfl.drop j) ds
 own:∀ fd oc od osl,K.lookup f=some ⟨oc,od,.func fd,osl⟩->dm P w K mg base (yP P w) k f fd d.ps sp
structure DM (K:W.Frag) (mg:NF) (T:Tab) (R:Rt):Prop where
 gfn:∀ x f,T.gfn.lookup x=some f->mg x=some (.ref (R.fad f))/\W.keepIn K (.ref (R.fad f))=true/\∃ d,T.fns[f]? =some d
 gcl:∀ x c,T.gcl.lookup x=some c->mg x=some (.ref (R.cad c))
 gbl:∀ x,T.gbl.contains x=true->mg x=none/\x≠"__name__"
 gbi:∀ x,T.gbi.contains x=true->∃ B,mg x=some (.ref B)/\MC K B
 gl:∀ x v,R.gl x=some v->∃ u,mg x=some u/\RelV v u
 na:∀ i f,T.na.contains (i,f)=true->ft K (R.cad i) f
 me:∀ i m f,T.me.lookup (i,m)=some f->DQ K (R.cad i)/\Meth K (R.cad i) m (R.fad f)/\∃ d,T.fns[f]? =some d
 ini0:∀ c,T.ini0.contains c=true->G0 K (R.cad c)
 inip:∀ c,T.inip.contains c=true->Ms K (R.cad c)
 ini:∀ c f,T.ini.lookup c=some f->(∃ d,T.fns[f]? =some d)/\if T.xc.contains c=true then Kr K (R.cad c) (R.fad f) else Mk K (R.cad c) (R.fad f)
 oc:∀ c,T.oc.contains c=true->DQ K (R.cad c)/\L8 K (R.cad c)
 xc:∀ c,T.xc.contains c=true->cW K (R.cad c)/\zN K (R.cad c)
 sub:∀ i j b,T.sub.lookup (i,j)=some b->W.kitOne K (.ref (R.cad i)) (.ref (R.cad j))=some b/\(T.xc.contains i=true->W.mroIn K (R.cad i) (.ref (R.cad j))=some b/\cW K (R.cad j))
 subT:∀ i n b,T.subT.lookup (i,n)=some b->W.kitOne K (.ref (R.cad i)) (.type n)=some b
 subB:∀ t n b,T.subB.lookup (t,n)=some b->W.kitOne K (.type t) (.type n)=some b
 subO:∀ t j b,T.subO.lookup (t,j)=some b->W.kitOne K (.type t) (.ref (R.cad j))=some b
 cin:∀ c f,T.cin.lookup c=some f->Nd K (R.cad c) (R.fad f)/\∃ d,T.fns[f]? =some d
structure Gd (X:Cx) (G:Gx) (S:Sn) (k:Nat) (E:St->XK):Prop where
 hK:G.R.K=X.K
 hT:S.T=G.T
 sc:X.env.scope=S.sc
 N:X.N=S.N
 nd:S.N.Nodup
 pass:Passes (yP X.prog X.w) X E
 cm:G.cm=true->X.calm=true
 room:G.cm=true->bU (k+1) X.A
 un:X.A.units+200<cLine
 tab:DM X.K X.mg G.T G.R
 fns:∀ f d,G.T.fns[f]? =some d->zK X.prog X.w X.K X.mg X.base k (G.R.fad f) d (G.Ψ f)
variable {x:Str}{l es:List Expr}
section
variable {X:Cx}{G:Gx}{S:Sn}{k:Nat}{E:St->XK}
def Gd.bin (g:Gd X G S k E)(op:Operator):cV X (binaryOp op) (GK G.R.K op):=g.hK▸FE op
def Gd.cmp (g:Gd X G S k E)(op:CmpOp):cV X (compareOp op) (lr G.R.K op):=g.hK▸Hc g.un op
def Gd.glob (g:Gd X G S k E)(h:S.nX x=true):Gl X x/\(x ==("__debug__":Str))=false:=by
 unfold Sn.nX at h;simp only[nl,decide_eq_true_eq,Bool.not_eq_true'] at h;refine ⟨?_,h.2⟩;show X.env.scope.names.lookup x=_;rw[g.sc];exact h.1
def Gd.FY (g:Gd X G S k E)(h:S.FY x=true):JW X.env.scope x/\(x ==("__debug__":Str))=false/\(x ==("__classdict__":Str))=false:=by
 unfold Sn.FY at h;simp only[nl,Bool.or_eq_true,decide_eq_true_eq,Bool.not_eq_true'] at h;refine ⟨?_,h.1.2,h.2⟩;unfold JW;rw[g.sc];rcases h.1.1 with (h|h)|h
 ·exact .inl h
 ·exact .inr (.inl h)
 ·exact .inr (.inr h)
def Gd.loc (g:Gd X G S k E){i:Nat}(h:S.loc i x=true):X.N[i]? =some x/\L2.Loc X.env.scope x:=by
 unfold Sn.loc at h;simp only[nl,Bool.or_eq_true,decide_eq_true_eq] at h;rw[g.N];refine ⟨h.1,?_⟩;unfold L2.Loc;rw[g.sc];exact h.2
def aY:∀ {es:gC}{l:List Expr},jm S es l=true->∀ (env:Env) (pos:Pos),(backTo pos (bm l env)).any (·.1)=false
 | .nil,[],_,_,_=>rfl
 | .nil,_::_,h,_,_=>by cases (show false=true from h)
 | .cons e es,[],h,_,_=>by cases (show false=true from h)
 | .cons e es,e'::l,h,env,pos=>by
  have h:(mE S e e'&&notStar e'&&jm S es l)=true:=h;simp only[nl] at h;rw[af h.1.2];show ((backTo pos (bm l env)).any (·.1))=false;exact aY h.2 env pos
def nW:∀ {es:gC}{l:List Expr},jm S es l=true->l.length=es.len
 | .nil,[],_=>rfl
 | .nil,_::_,h=>by cases (show false=true from h)
 | .cons e es,[],h=>by cases (show false=true from h)
 | .cons e es,e'::l,h=>by
  have h:(mE S e e'&&notStar e'&&jm S es l)=true:=h;simp only[nl] at h;show l.length+1=es.len+1;rw[nW h.2]
def bL {es:gC}(h:jm S es (e::l)=true):notStar e=true/\∃ x es',es=.cons x es'/\jm S es' l=true:=by
 cases es with
 |nil=>cases (show false=true from h)
 |cons x es'=>
  have h:(mE S x e&&notStar e&&jm S es' l)=true:=h;simp only[nl] at h;exact ⟨h.1.2,x,es',rfl,h.2⟩
def vF:∀ {es:gC}{l:List Expr},jm S es l=true->es.len<20->∀ (env:Env) (cpos:Pos),methodCallForm (l.length+([]:List Keyword).length) (backTo cpos (bm l env)) (backToKw cpos (keywordEach [] env))=true:=by
 intro es l h hl env cpos;have h1:=aY h env cpos;have h2:=nW h;have h3:(backTo cpos (bm l env)).all (λx=>!x.1)=true:=by
  rw[all_eq_true];intro x hx;rw[any_eq_false] at h1;simpa using h1 x hx
 unfold methodCallForm;rw[h3,h2];simp[keywordEach,backToKw]
 omega
def mX {m:Str}{apos pos:Pos}{env:Env}(hb:fH o=true)(hf:methodCallForm (es.length+([]:List Keyword).length) (backTo pos (bm es env)) (backToKw pos (keywordEach [] env))=true)(hl:(apos.endLine ==pos.line)=true):
  eval (.Call (.Attribute o m apos) es [] pos) env=(do
   let ov <-eval o env
   standAt apos.atName
   let (f,first) <-holding [ov] (getMethod ov m (do return (<-importBound o env).getD true))
   callWith pos f first (backTo pos (bm es env)) (backToKw pos (keywordEach [] env))):=by
 show (do
  let ov <-attributeBase o m env (eval o env)
  standAt apos.atName
  methodCall o m apos pos env ov (es.length+([]:List Keyword).length) (backTo pos (bm es env)) (backToKw pos (keywordEach [] env)))=_
 rw[cj hb];unfold methodCall calleeOf methodCallPos;rw[hf,hl]
 rfl
def F5 {es:gC}(h:jm S es (e::l)=true)(hl:es.len<20)(env:Env)(cpos:Pos):
  ((backTo cpos (bm (e::l) env)).all (λx=>!x.1)&&(backToKw cpos (keywordEach [] env)).all (λx=>x.1.isSome)
   &&decide ((e::l).length+([]:List Keyword).length+(if ([]:List Keyword).isEmpty then 0 else 1)<30))=true:=by
 have h1:=aY h env cpos;have h2:=nW h;have h3:(backTo cpos (bm (e::l) env)).all (λx=>!x.1)=true:=by
  rw[all_eq_true];intro x hx;rw[any_eq_false] at h1;simpa using h1 x hx
 rw[h3,h2];simp[keywordEach,backToKw]
 omega
end
variable {H:Hp}{Y:ND}{a:Addr}
section
variable {X:Cx}{G:Gx}{S:Sn}{k:Nat}{E:St->XK}
def mU {K:W.Frag}{x:V}{t:String}(h:tyName x H=some t):i7 K H x (.type t):=by
 unfold tyName at h
 split at h
 ·cases h;exact .non
 ·cases h;exact .bl _
 ·cases h;exact .int _
 ·cases h;exact .str _
 ·split at h
  ·rename_i e;cases h;exact .lst e
  ·rename_i e;cases h;exact .tup e
  ·rename_i e;cases h;exact .dK e
  ·cases h
 ·cases h
def ve {s:Shared}{U:St}{Q:VK}{i:Nat}{b:Bool}{cv:Value}(g:Gd X G S k E)(I:Inv X Y U H s)(o:vm G H a i)
  (e:W.kitOne X.K (.ref (G.R.cad i)) cv=some b) (q:Q (.bl b) H):wpAny (model X.prog X.w) X.A (call (.builtin "isinstance") [.ref a,cv]) (EP X Y U Q) X.xe s:=by
 rcases o with ⟨ho,dx,fs,ha⟩|⟨ho,dx,fs,fr,ha⟩
 ·obtain ⟨c,z⟩:=g.tab.oc i ho;exact i5 I (x:=.ref a) rfl (.ins ha c z.ha z.hn z.htk z.hm) e λtk=>⟨.bl b,H,I.tok _,rfl,q⟩
 ·obtain ⟨c,z⟩:=g.tab.xc i ho;exact zt I ha c z e λtk=>⟨.bl b,H,I.tok _,rfl,q⟩
def Cq (g:Gd X G S k E)(j:Nat):cT X (.builtin "isinstance") (λvs H Q=>∃ x,vs=[x,.ref (G.R.cad j)]/\mx G (.own j) x H Q):=by
 intro Y s U H xs us Q I r h;obtain ⟨x,rfl,h⟩:=h;obtain ⟨u,w',rfl,rx,rT⟩:=vals2 r;obtain rfl:w'=Value.ref (G.R.cad j):=rT;unfold mx at h;rcases h with ⟨t,b,ht,hb,q⟩|⟨a,i,b,rfl,ho,hb,q⟩
 ·exact i5 I rx (mU ht) (g.tab.subO t j b hb) λtk=>⟨.bl b,H,I.tok _,rfl,q⟩
 ·obtain rfl:u=Value.ref a:=rx;exact ve g I ho (g.tab.sub i j b hb).1 q
def GY (g:Gd X G S k E)(n:String):cT X (.builtin "isinstance") (λvs H Q=>∃ x,vs=[x,.ty n]/\mx G (.ty n) x H Q):=by
 intro Y s U H xs us Q I r h;obtain ⟨x,rfl,h⟩:=h;obtain ⟨u,w',rfl,rx,rT⟩:=vals2 r;obtain rfl:w'=Value.type n:=rT;unfold mx at h;rcases h with ⟨t,b,ht,hb,q⟩|⟨a,i,b,rfl,ho,hb,q⟩
 ·exact i5 I rx (mU ht) (g.tab.subB t n b hb) λtk=>⟨.bl b,H,I.tok _,rfl,q⟩
 ·obtain rfl:u=Value.ref a:=rx;exact ve g I ho (g.tab.subT i n b hb) q
def D0 {n:String}(h:kg.contains n=true):bootBuiltins (n:Str)=some (.type n):=by
 have h':n ∈ kg:=by simpa using h
 simp only[kg,nb,not_mem_nil,or_false] at h';rcases h' with rfl|rfl|rfl|rfl|rfl|rfl|rfl<;>decide+kernel
abbrev MF (G:Gx):Cl->V
 | .own c=>.ref (G.R.cad c)
 | .ty n=>.ty n
def Km (g:Gd X G S k E){c:Cl}(h:BL S c e=true):PE X e (tC (MF G c)):=by
 unfold BL at h
 split at h
 ·simp only[nl,decide_eq_true_eq] at h;obtain ⟨hg,hd⟩:=g.glob h.1;exact uZ hg (g.tab.gcl _ _ (g.hT▸h.2)) rfl hd
 ·simp only[nl,decide_eq_true_eq] at h;obtain ⟨⟨⟨h1,rfl⟩,h3⟩,h4⟩:=h;obtain ⟨hg,hd⟩:=g.glob h1;obtain ⟨hm,hn⟩:=g.tab.gbl _ (g.hT▸h3);exact C7 hg hm (D0 h4) rfl hn hd
 ·cases h
def Hi (g:Gd X G S k E)(c:Cl):cT X (.builtin "isinstance") (λvs H Q=>∃ x,vs=[x,MF G c]/\mx G c x H Q):=by
 cases c with
 |own j=>exact Cq g j
 |ty n=>exact GY g n
abbrev yx:Bf->Value
 | .len=>.builtin "len"| .list=>.type "list"| .tuple=>.type "tuple"| .int=>.type "int"| .str=>.type "str"| .min=>.builtin "min"| .max=>.builtin "max"| .abs=>.builtin "abs"| .all=>.builtin "all"| .any=>.builtin "any"| .dict=>.type "dict"
def D7 (b:Bf):bootBuiltins (AA b:Str)=some (yx b):=by cases b<;>decide+kernel
def vM:∀ {bs:List Bool}{us:List Value},Vals (bs.map V.bl) us->PyProof.Rows.LSm.BoolsAre us bs
 | [],_,h=>by cases h;exact .nil
 |b::bs,_,h=>by
  cases h with
  |cons r1 r2=>
   obtain rfl:_=Value.bool b:=r1;exact .cons b (vM r2)
def wC (hc:X.calm=true):cT X (.builtin "all") (λxs H Q=>∃ p,∃ bs:List Bool,xs=[.ref p]/\aR X.K H p (bs.map V.bl)/\Q (.bl (bs.all id)) H):=by
 intro Y s U H xs us Q I r h;obtain ⟨p,bs,rfl,hq,q⟩:=h;obtain ⟨u,rfl,rx⟩:=vals1 r;cases rx;obtain ⟨its,r',pl,hz⟩:=I.list hq;have hb:=vM r';have hl:=pl.isList;have lt:p<s.heap.objs.size:=by obtain ⟨_,e,_⟩:=hl;exact ut e
 refine call_all_walk (wpAny_pyIter_list hl ⟨s.heap.objs.size,[s.heap.objs.size,p],[s.heap.objs.size],its.toArray.size,_,_,λi=>(bs[i]?).getD true,rfl,
  Walks.list (A:=X.A.in1) (I.ok.hd hc) _ p (pi lt) its.toArray,⟨⟨_,v4 _ rfl,rfl,rfl⟩,hl.push _⟩,λi v s' Q' E' hP hQ=>?_,λh' tk hk=>?_⟩)
 ·obtain ⟨b,e,rfl⟩:=hb.get i v (by simpa using hP);have hQ:Q' ((bs[i]?).getD _) s':=hQ;rw[e] at hQ;exact bi hQ
 ·have e:((List.range its.toArray.size).all λi=>(bs[i]?).getD true)=bs.all id:=by
   rw[ii,hb.length,PyProof.Rows.LSm.range_all]
  rw[e];exact ⟨.bl _,H,I.kept (PyProof.Rows.LSm.kept_iter hk),rfl,q⟩
def pJ:cT X (.type "dict") (λvs H Q=>∃ p kvs,vs=[.ref p]/\H p=some (.dK kvs)/\∀ l,H l=none->Q (.ref l) (upd H l (.dK kvs))):=by
 intro Y s U H xs us Q I r h;obtain ⟨p,kvs,rfl,hp,q⟩:=h;obtain ⟨u,rfl,rx⟩:=vals1 r;cases rx;exact yK I (.inl hp) λl s' hl J=>⟨.ref l,_,J,rfl,q l hl⟩
def ID (g:Gd X G S k E)(b:Bf):cT X (yx b) (mj G b):=by
 intro Y s U H xs us Q I r h;unfold mj at h;rw[g.hK] at h;cases b with
 |len=>exact zU Y s U H _ us Q I r h
 |list=>exact pH Y s U H _ us Q I r h
 |tuple=>exact mD Y s U H _ us Q I r h
 |int=>exact xy Y s U H _ us Q I r h
 |str=>
  rcases h with h|⟨z,rfl,q⟩
  ·exact pG Y s U H _ us Q I r h
  ·obtain ⟨u,rfl,t,rfl⟩:=vals1 r;exact PySem.P.str_of_str ⟨.str z,H,I,⟨_,rfl⟩,q⟩
 |min=>
  rcases h with ⟨hc,h|h⟩
  ·exact xg (g.cm hc) Y s U H _ us Q I r h
  ·exact h.elim
 |max=>exact wR (g.cm h.1) Y s U H _ us Q I r h.2
 |abs=>exact h.elim
 |all=>exact wC (g.cm h.1) Y s U H _ us Q I r h.2
 |any=>exact h.elim
 |dict=>exact pJ Y s U H _ us Q I r h
abbrev FJ:Lm->String
 | .append=>"list.append"| .extend=>"list.extend"| .insert=>"list.insert"| .pop=>"list.pop"| .clear=>"list.clear"| .reverse=>"list.reverse"| .count=>"list.count"
def uL (m:Lm):Slot "list" (zC m:Str) (FJ m):=by
 cases m
 ·exact PySem.F.slot_list_append
 ·exact PySem.F.slot_list_extend
 ·exact PySem.F.slot_list_insert
 ·exact PySem.F.slot_list_pop
 ·exact PySem.F.slot_list_clear
 ·exact PySem.F.slot_list_reverse
 ·exact PySem.F.slot_list_count
def EK (m:Lm):typeOf (.builtin (FJ m))=pure (.type "method_descriptor"):=by cases m<;>rfl
abbrev M3 (m:Lm):V->List V->Hp->VK->Prop:=λx vs H Q=>∃ p xs,x=.ref p/\H p=some (.lst xs)/\GA m p xs vs H Q
def ER (m:Lm):KG X (FJ m) (M3 m):=by
 intro Y s U H x vs v us Q I rx rv h;obtain ⟨p,xs,rfl,hp,h⟩:=h;unfold GA at h;cases m with
 |append=>
  obtain ⟨y,rfl,h⟩:=h;exact iZ Y s U H _ _ v us Q I rx rv ⟨p,xs,_,rfl,rfl,hp,Nat.lt_of_le_of_lt h.1 (by decide),h.2⟩
 |extend=>
  obtain ⟨b,zs,rfl,hz,hl,q⟩:=h;exact wU Y s U H _ _ v us Q I rx rv ⟨p,_,xs,zs,rfl,rfl,hp,hz,nQ nofun,q⟩
 |insert=>
  obtain ⟨i,y,rfl,h⟩:=h;exact xO Y s U H _ _ v us Q I rx rv ⟨p,xs,_,_,rfl,rfl,hp,h.1,h.2.1,Nat.lt_of_le_of_lt h.2.2.1 (by decide),h.2.2.2⟩
 |pop=>exact h.elim
 |clear=>exact h.elim
 |reverse=>exact h.elim
 |count=>exact h.elim
def yy {m:Str}{apos pos:Pos}{ta:TE}{t:TA}{pl:Sem Bool}{n:Nat}(g:Gd X G S k E)(hc:G.cm=true)(he:PE X o ta)(ha:PA X es t)
  (hnil:es=[]->∀ U H R,t U H R->R [] H) (hst:∀ e r,es=e::r->bm es X.env=(false,eval e X.env)::bm r X.env) (hpl:∀ e r,es=e::r->(backTo pos (bm r X.env)).any (·.1)=false)
  (ht:eval (.Call (.Attribute o m apos) es [] pos) X.env=(do
   let ov <-eval o X.env
   standAt apos.atName
   let (f,first) <-holding [ov] (getMethod ov m pl)
   callWith pos f first (backTo pos (bm es X.env)) (backToKw pos (keywordEach [] X.env)))):
  PE X (.Call (.Attribute o m apos) es [] pos) (λU H Q=>ta U H λx H1=>∃ p i dx fs f,x=.ref p/\H1 p=some (.ins (G.R.cad i) dx fs)/\fs.lookup m=none/\G.T.me.lookup (i,m)=some f/\
   t U H1 λvs H2=>G.Ψ f (x::(vs++dflt G f n)) H2 Q (E U)):=by
 intro Y s U H Q I h;refine W.methodCall_KW (pl:=pl) (aC (he Y s U H _ I h) λu s1 ⟨x,H1,I1,rx,a,i,dx,fs,f,ex,ea,l,hf,q⟩=>?_) ht;subst ex;obtain rfl:u=Value.ref a:=rx;obtain ⟨c,hm,d,hd⟩:=g.tab.me i m f hf;obtain ⟨fd,F,B⟩:=(g.fns f d hd).fact;have hr:bU k X.A:=(g.room hc).mono (Nat.le_succ _);obtain ⟨ds,hb,hv⟩:∃ ds,Binds X.K fd d.ps ds/\Vals (dflt G f n) ds:=by
  unfold dflt;rw[hd];exact B _
 refine sL I1 ea c hm l ?_;cases es with
 |nil=>
  refine W.callWith_K0 (first:=[.ref a]) I1.b6 hm.kp ?_;exact pZ (us:=[.ref a]) (vs:=[.ref a]) F hr hb hv g.pass I1 (.cons rfl .nil) (hnil rfl _ _ _ q)
 |cons e r=>
  refine W.callWith_K (first:=[.ref a]) (h₀:=X.base) I.ok.mod.kin hm.kp (aC (ha pos Y s1 U H1 _ I1 q) λus s2 ⟨vs,H2,I2,r,q2⟩=>⟨I2.b6,?_⟩) (hst e r rfl) (hpl e r rfl);exact pZ (us:=.ref a::us) (vs:=.ref a::vs) F hr hb hv g.pass I2 (.cons rfl r) q2
end
def El {α β:Type}{f:α->Option β}:∀ {l:List α}{j:Nat}{y:β},(∀ a ∈ l,(f a).isSome=true)->(l.filterMap f)[j]? =some y->∃ a,l[j]? =some a/\f a=some y
 | [],_,_,_,h=>by simp at h
 |a::l,j,y,hs,h=>by
  obtain ⟨b,hb⟩:=Option.isSome_iff_exists.mp (hs a mo);rw[filterMap_cons,hb] at h;cases j with
  |zero=>simp at h;exact ⟨a,rfl,by rw[hb,h]⟩
  |succ j=>
   simp at h;obtain ⟨a',h1,h2⟩:=El (λa ha=>hs a (dL _ ha)) h;exact ⟨a',by simpa using h1,h2⟩
def AV {α β:Type}{f:α->Option β}:∀ {l:List α},(∀ a ∈ l,(f a).isSome=true)->(l.filterMap f).length=l.length
 | [],_=>rfl
 |a::l,hs=>by
  obtain ⟨b,hb⟩:=Option.isSome_iff_exists.mp (hs a mo);rw[filterMap_cons,hb];simp[AV (λa ha=>hs a (dL _ ha))]
abbrev lB (env:Env):Str×NameKind->List (Str×Addr)->Sem (ForInStep (List (Str×Addr))):=λnk r=>do
 let cs:=r
 if (nk.2 ==NameKind.free)=true then do
  let a <-cellOf env nk.1
  pure (ForInStep.yield ((nk.1,a)::cs))
 else pure (ForInStep.yield cs)
def og {env:Env}:∀ (names:List (Str×NameKind)) (cs:List (Str×Addr)),(∀ y ∈ names,y.2=.free->∃ c,env.cells.lookup y.1=some c)->
  ∃ cl,(forIn names cs (lB env):Sem _)=pure cl/\(∀ y c,cl.lookup y=some c->cs.lookup y=some c\/env.cells.lookup y=some c)/\(∀ y,(cs.lookup y).isSome=true->(cl.lookup y).isSome=true)/\∀ y ∈ names,y.2=.free->(cl.lookup y.1).isSome=true
 | [],cs,_=>⟨cs,rfl,λy c h=>.inl h,λy h=>h,λy hy=>absurd hy (by simp)⟩
 |(n,kd)::r,cs,h=>by
  by_cases hk:kd=.free
  ·subst hk;obtain ⟨c,hc⟩:=h (n,.free) mo rfl;obtain ⟨cl,h1,h2,h3,h4⟩:=og r ((n,c)::cs) λy hy=>h y (dL _ hy)
   have self:(((n,c)::cs).lookup n).isSome=true:=by simp[lookup_cons]
   refine ⟨cl,?_,λy d q=>?_,λy q=>h3 y ?_,λy hy hf=>?_⟩
   ·rw[forIn_cons];have e:lB env (n,.free) cs=pure (ForInStep.yield ((n,c)::cs)):=by
     unfold lB;simp only[cellOf,hc]
     rfl
    rw[e];exact h1
   ·rcases h2 y d q with q|q
    ·rw[lookup_cons] at q
     by_cases e:y=n
     ·subst e;simp at q;subst q;exact .inr hc
     ·rw[show (y ==n)=false from beq_eq_false_iff_ne.mpr e] at q;exact .inl q
    ·exact .inr q
   ·rw[lookup_cons];cases (y ==n)<;>simp[q]
   ·rcases nb.mp hy with rfl|hy
    ·exact h3 _ self
    ·exact h4 y hy hf
  ·obtain ⟨cl,h1,h2,h3,h4⟩:=og r cs λy hy=>h y (dL _ hy)
   refine ⟨cl,?_,h2,h3,λy hy hf=>?_⟩
   ·rw[forIn_cons];have e:lB env (n,kd) cs=pure (ForInStep.yield cs):=by
     unfold lB;cases kd<;>first|rfl|exact absurd rfl hk
    rw[e];exact h1
   ·rcases nb.mp hy with rfl|hy
    ·exact absurd hf hk
    ·exact h4 y hy hf
variable {scope:Scope}
def C6 {env:Env}(h:∀ y ∈ scope.names,y.2=.free->∃ c,env.cells.lookup y.1=some c):
  ∃ cl,closureFor scope env=pure cl/\(∀ y c,cl.lookup y=some c->env.cells.lookup y=some c)/\∀ y ∈ scope.names,y.2=.free->(cl.lookup y.1).isSome=true:=by
 obtain ⟨cl,h1,h2,_,h4⟩:=og scope.names [] h;refine ⟨cl,?_,λy c q=>(h2 y c q).resolve_left (by simp),h4⟩;have e:closureFor scope env=(forIn scope.names [] (lB env) >>= λcs=>pure cs):=by
  unfold closureFor lB
  rfl
 rw[e,h1]
 rfl
variable {xs:List Str}{sel:List Nat}
section
variable {X:Cx}{G:Gx}{S:Sn}{k:Nat}{E:St->XK}
def rD (g:Gd X G S k E)(scope:Scope):relabel scope X.env=dQ S.sc scope:=by
 unfold relabel dQ Env.kindOf;rw[g.sc]
def cN (g:Gd X G S k E)(ok:X.Ok)(h:gz S scope xs sel=true):∃ cl,bE X scope cl xs (sel.filterMap λi=>S.N[i]?) sel:=by
 unfold gz at h;simp only[nl,decide_eq_true_eq,all_eq_true,Bool.or_eq_true,bne_iff_ne,ne_eq] at h;obtain ⟨⟨⟨⟨⟨h1,h2⟩,h3⟩,h4⟩,h5⟩,h6⟩:=h;have hs:∀ i ∈ sel,(S.N[i]?).isSome=true:=λi hi=>by
  have:=h5 i hi
  split at this
  ·rename_i e;rw[e];rfl
  ·cases this
 obtain ⟨cl,c1,c2,c3⟩:=C6 (env:=X.env) (scope:=scope) λy hy hf=>ok.has y.1 (.inl (by
  show X.env.scope.names.lookup y.1=_;rw[g.sc];exact ((h3 y hy).2).resolve_left λz=>z hf))
 refine ⟨cl,⟨c1,c2,λy hy=>?_,h1,λy hy=>(h3 y hy).1.1,λy hy hl=>((h3 y hy).1.2).resolve_left λz=>z hl,h4,(AV hs).symm,λj y hj=>?_,h6⟩⟩
 ·have:∃ kd,(y,kd) ∈ scope.names/\kd=.free:=by
   rcases hy with hy|hy
   ·obtain ⟨kd,m,q⟩:=dG hy;rcases q with q|q
    ·subst q;exact absurd rfl (h3 _ m).1.1
    ·exact ⟨kd,m,q.1⟩
   ·obtain ⟨kd,m,q⟩:=dG hy;rcases q with q|q
    ·exact ⟨kd,m,q.symm⟩
    ·exact nomatch q.2
  obtain ⟨kd,m,rfl⟩:=this;exact Option.isSome_iff_exists.mp (c3 _ m rfl)
 ·obtain ⟨i,hi,hn⟩:=El hs hj;have q:=h5 i (cr hi);rw[hn] at q;simp only[nl,decide_eq_true_eq] at q;refine ⟨i,hi,by rw[g.N];exact hn,by rw[g.sc];exact q.1,by rw[rD g];exact q.2⟩
def Gd.comp (g:Gd X G S k E){cl:List (Str×Addr)}(C:bE X scope cl xs (sel.filterMap λi=>S.N[i]?) sel) (s:Shared) (H:Hp) (fp:List Addr):
  Gd (fX X scope cl (xs++sel.filterMap λi=>S.N[i]?) s H fp) G { S with sc:=dQ S.sc scope,N:=xs++sel.filterMap λi=>S.N[i]? } k (λ_ _ _=>False) where
 hK:=g.hK
 hT:=g.hT
 sc:=rD g scope
 N:=rfl
 nd:=C.nd
 pass:=λY U H s e s' I h=>by
  obtain ⟨e,H',C,dx,fs,T,_,_,_,_,_,_,_,_,_,q⟩:=h;exact q.elim
 cm:=g.cm
 room:=g.room
 un:=g.un
 tab:=g.tab
 fns:=g.fns
def qS (env:Env):∀ {is:List Nat}{ts:List Expr},ye S is ts=true->(assignEach ts env).length=is.length/\(assignEach ts env).findIdx? (·.1)=none
 | [],[],_=>⟨rfl,rfl⟩
 | [],_::_,h=>by simp[ye] at h
 |_::_,[],h=>by simp[ye] at h
 |i::is,t::ts,h=>by
  cases t<;>simp[ye] at h
  rename_i x p;obtain ⟨h1,h2⟩:=qS env h.2;have e:assignEach (.Name x p::ts) env=(false,assign (.Name x p) env)::assignEach ts env:=rfl;rw[e];refine ⟨by simp[h1],?_⟩;rw[List.findIdx?_cons];simp[h2]
def vI (g:Gd X G S k E):∀ {is:List Nat}{ts:List Expr},ye S is ts=true->Fo X ts (gl is)
 | [],[],_=>λY s U H vs us Q I r h=>om Y s U H vs us Q I r ⟨length_eq_zero_iff.mp h.1,by
   have:=h.2;have e:vs=[]:=length_eq_zero_iff.mp h.1;subst e;exact this⟩
 | [],_::_,h=>by simp[ye] at h
 |_::_,[],h=>by simp[ye] at h
 |i::is,t::ts,h=>by
  cases t<;>simp[ye] at h
  rename_i x p;have hl:X.env.scope.names.lookup x=some .local:=by rw[g.sc];exact h.1.2
  have h1:PG X (.Name x p) (gT i):=gQ (by rw[g.N];exact g.nd) (by rw[g.N];exact h.1.1) (.inl hl) (.inr hl);have h2:=vI g h.2;intro Y s U H vs us Q I r q;refine ik h1 h2 rfl Y s U H vs us Q I r ?_;obtain ⟨hl,q⟩:=q;cases vs with
  |nil=>simp at hl
  |cons v vs=>exact ⟨v,vs,rfl,by simpa using hl,q⟩
def vf (g:Gd X G S k E)(hc:G.cm=true){n kt:Nat}{ts:List Expr}{pt:Pos}(h:ye S (List.range n) ts=true):PG X (.Tuple ts kt pt) (C0 G.R.K n (gl (List.range n))):=by
 obtain ⟨e1,e2⟩:=qS X.env h;rw[List.length_range] at e1;rw[g.hK];exact qc (g.cm hc) (vI g h) e1 e2
def uY {n:Nat}(h:xs.length=n):sx xs=sK n none:=by
 subst h;unfold sx;rw[List.map_const']
end
set_option maxHeartbeats 2000000
variable {r:List Expr}{p:Pos}{U:L2.St}{s1:Shared}{R:It->Hp->Prop}{keys:List (Option Expr)}
section
variable {G:Gx}{k:Nat}
def lW {o1 o2:CmpOp}{c:Expr}(h:cU c=true):lastMarks [o1,o2] [b,c]=false:=by
 show behindInMarks o2 c=false;exact c5 h _
def tI {o1 o2 o3:CmpOp}{c d:Expr}(h:cU d=true):lastMarks [o1,o2,o3] [b,c,d]=false:=by
 show behindInMarks o3 d=false;exact c5 h _
def As {t:TE}(h:PE X (match r with| []=>b|_=>.BoolOp .And (b::r) p) t):PE X (.BoolOp .And (b::r) p) t:=by
 cases r with
 |nil=>exact Au h
 |cons c r=>exact h
def Ba {t:TE}(h:PE X (match r with| []=>b|_=>.BoolOp .Or (b::r) p) t):PE X (.BoolOp .Or (b::r) p) t:=by
 cases r with
 |nil=>exact Au h
 |cons c r=>exact h
def En {op:BoolOp}(h:PT X (.BoolOp op l p) t):PW X (.BoolOp op l p) t:=λwhole Y s U H Q I q=>by
 have:=h Y s U H Q I q;exact this
def An (h:PT X (match r with| []=>b|_=>.BoolOp .And (b::r) p) t):PW X (.BoolOp .And (b::r) p) t:=by
 cases r with
 |nil=>exact CV h
 |cons c r=>exact En h
def AN (h:PT X (match r with| []=>b|_=>.BoolOp .Or (b::r) p) t):PW X (.BoolOp .Or (b::r) p) t:=by
 cases r with
 |nil=>exact G3 h
 |cons c r=>exact En h
def C5:KD X (unaryOp .USub) (λx H Q=>match x with| .int i=>Q (.int (-i)) H|_=>False):=by
 intro Y s U H x v Q I r h
 split at h
 ·exact (L2.Gr Y s U H _ v Q I r ⟨_,rfl,h⟩)
 ·exact h.elim
def w6 {CX:uI}{C f:Addr}{fd:FuncData}{ps:List Str}{sp:Sp}{dvs:List V}{ds:List Value}{E:St->XK}{pos:Pos}(M:Kr X.K C f)(F:dm X.prog X.w X.K X.mg X.base CX k f fd ps sp)(hr:bU (k+1) X.A)(hg:Gl X x)(hm:X.mg x=some (.ref C))(hb:Binds X.K fd ps ds)(hd:Vals dvs ds)(hx:Passes CX X E)
  (hdb:(x ==("__debug__":Str))=false):PE X (.Call (.Name x p) [] [] pos) (AM C sp dvs E Ca):=by
 intro Y s U H Q I h;refine bv (bN I hg hm ?_ hdb);exact W.callWith_K0 I.b6 M.kp (nu (us:=[]) M F hr hb hd hx (Nat.zero_le _) I .nil h.2)
def cV.cn {f:Value->Value->Sem Value}{r:R2}(h:cV X f r):cV X f (λx y H R=>∃ Q,r x y H Q/\∀ z H1,Q z H1->R z H1):=λY s U H x y v u R I rx ry ⟨Q,q,i⟩=>
 aC (h Y s U H x y v u Q I rx ry q) λ_ _ ⟨v,H',J,r,z⟩=>⟨v,H',J,r,i _ _ z⟩
section
open PyProof.Rows
def wu {tg:Expr}{H1:Hp}{v:Value}{xs:List V}(I1:Inv X Y U H1 s1)(r:RelV (.ref a) v)(hq:aR X.K H1 a xs)(q:R (FV X.K a) H1):
  wpAny (model X.prog X.w) X.A (pyIter v) (KA X Y U tg R) X.xe s1:=by
 cases r;obtain ⟨its,rv,p,hz⟩:=I1.list hq;refine wpAny_pyIter_list p.isList ?_;refine ⟨s1.heap.objs.size,[s1.heap.objs.size],_,_,H1,rfl,I1.kept (t':=s1.toks) λb o e=>ul _ e,wV a _,⟨_,v4 _ rfl,rfl,rfl⟩,λb hb=>?_,q⟩;have e:b=s1.heap.objs.size:=by simpa using hb
 subst e;exact I1.yO (re _) (I1.hok.fresh (re _))
def yT {tg:Expr}{H1:Hp}{v:Value}{xs:List V}(I1:Inv X Y U H1 s1)(r:RelV (.ref a) v)(hq:aX X.K H1 a xs)(q:R (J0 X.K a) H1):
  wpAny (model X.prog X.w) X.A (pyIter v) (KA X Y U tg R) X.xe s1:=by
 cases r;obtain ⟨its,rv,p,hz⟩:=I1.tuple hq;refine wpAny_pyIter_tuple (show s1.heap.IsTuple a its.toArray from p) ?_;refine ⟨s1.heap.objs.size,[s1.heap.objs.size],_,_,H1,rfl,I1.kept (t':=s1.toks) λb o e=>ul _ e,tj a _,⟨_,v4 _ rfl,rfl,rfl⟩,λb hb=>?_,q⟩;have e:b=s1.heap.objs.size:=by simpa using hb
 subst e;exact I1.yO (re _) (I1.hok.fresh (re _))
end
def HJ {K:W.Frag}{x:V}{Q:Bool->Hp->Prop}(h:Gk K x H Q):∃ k,D9 K x H k/\Q k H:=by
 unfold Gk at h
 split at h
 ·exact ⟨_,rfl,h⟩
 ·exact h
abbrev Kp:List Str->List V->List (V×V)
 |k::ks,x::xs=>(.str k,x)::Kp ks xs
 |_,_=>[]
def AU:∀ {ks:List Str}{xs:List V},Kp ks xs=(HX ks xs).map (λkv=>(kV kv.1,kv.2))
 | [],_=>rfl
 |_::_,[]=>rfl
 |k::ks,x::xs=>by
  show (V.str k,x)::Kp ks xs=(kV (.inr k),x)::(HX ks xs).map _;rw[AU]
  rfl
def vy:∀ {ks:List Str}{xs:List V},(HX ks xs).length<=ks.length
 | [],_=>re _
 |_::_,[]=>Nat.zero_le _
 |k::ks,x::xs=>Nat.succ_le_succ vy
def i8 {k:Str}{ks:List Str}(h:oA (k::ks) keys=true):∃ j p r,keys=some (.Constant (.str k) j p)::r/\oA ks r=true:=by
 unfold oA at h
 split at h
 ·rename_i e;cases e
 ·rename_i k' ks' x j p r e
  injection e with e1 e2
  subst e1 e2;simp only[nl,decide_eq_true_eq] at h;obtain ⟨rfl,h⟩:=h;exact ⟨_,_,_,rfl,h⟩
 ·cases h
def kN (h:oA [] keys=true):keys=[]:=by
 cases keys with
 |nil=>rfl
 |cons a r=>cases (show false=true from h)
def qJ:∀ {ks:List Str}{keys:List (Option Expr)},oA ks keys=true->keys.length=ks.length
 | [],keys,h=>by rw[kN h];rfl
 |k::ks,keys,h=>by
  obtain ⟨j,p,r,rfl,h2⟩:=i8 h;rw[length_cons,length_cons,qJ h2]
def qB:∀ {ks:List Str}{keys:List (Option Expr)},oA ks keys=true->keys.all (·.isSome)=true
 | [],keys,h=>by rw[kN h];rfl
 |k::ks,keys,h=>by
  obtain ⟨j,p,r,rfl,h2⟩:=i8 h;rw[all_cons,qB h2]
  rfl
def AS {S:Sn}:∀ {x:gC}{e:List Expr},jm S x e=true->e.length=x.len
 | .nil,[],_=>rfl
 | .nil,_::_,h=>by cases (show false=true from h)
 | .cons x xs,[],h=>by cases (show false=true from h)
 | .cons x xs,e::es,h=>by
  have h:(mE S x e&&notStar e&&jm S xs es)=true:=h;simp only[nl] at h;exact congrArg Nat.succ (AS h.2)
mutual
theorem sE:∀ (x:Ex){X:Cx}{S:Sn}{E:St->XK},Gd X G S k E->∀ {e:Expr},mE S x e=true->PE X e (λU H Q=>wE G x U H Q (E U))
 | .v i,X,S,E,g,e,h=>by
  sleep 1
  simp only[nl,decide_eq_true_eq] at h;obtain ⟨h1,h2⟩:=h;obtain ⟨v1,v2,v3⟩:=g.FY h2;refine PE.imp (Gn (i:=i) (by rw[g.N];exact h1) v1 v2 v3) λU H Q q=>?_
  conv at q=>whnf
  split at q
  ·rename_i e;exact ⟨_,e,q⟩
  ·exact q.elim
 | .int i,X,S,E,g,e,h=>by
  sleep 2
  simp only[decide_eq_true_eq] at h;subst h;exact FX
 | .bl i,X,S,E,g,e,h=>by
  sleep 2
  simp only[decide_eq_true_eq] at h;subst h;exact Jn
 | .non,X,S,E,g,e,h=>by
  sleep 2
  exact GO
 | .str i,X,S,E,g,e,h=>by
  sleep 2
  simp only[decide_eq_true_eq] at h;subst h;exact yl
 | .gl x,X,S,E,g,e,h=>by
  sleep 1
  simp only[nl,decide_eq_true_eq] at h;obtain ⟨rfl,h2⟩:=h;obtain ⟨hg,hd⟩:=g.glob h2;intro Y s U H Q I q
  conv at q=>whnf
  split at q
  ·rename_i v e;obtain ⟨u,hm,r⟩:=g.tab.gl _ v e;exact uZ hg hm r hd Y s U H Q I q
  ·exact q.elim
 | .bin op a b,X,S,E,g,e,h=>by
  sleep 1
  simp only[nl,decide_eq_true_eq] at h;obtain ⟨⟨rfl,ha⟩,hb⟩:=h;exact Ip (g.bin op) (sE a g ha) (sE b g hb)
 | .neg a,X,S,E,g,e,h=>by
  sleep 2
  exact Iu C5 (sE a g h)
 | .not a,X,S,E,g,e,h=>by
  sleep 2
  refine PE.imp (F3 (PE.cn (sE a g h))) λU H Q q=>⟨_,q,λx H1 z=>?_⟩
  split at z
  ·exact ⟨_,rfl,z⟩
  ·exact z.elim
 | .and a b,X,S,E,g,e,h=>by
  sleep 3
  simp only[nl] at h;refine PE.imp (Fy (PE.cn (sE a g h.1)) (As (sE b g h.2))) λU H Q q=>⟨_,q,λx H1 z=>?_⟩
  split at z
  ·rw[cH] at z;exact ⟨_,rfl,z⟩
  ·exact z.elim
 | .or a b,X,S,E,g,e,h=>by
  sleep 3
  simp only[nl] at h;refine PE.imp (Jw (PE.cn (sE a g h.1)) (Ba (sE b g h.2))) λU H Q q=>⟨_,q,λx H1 z=>?_⟩
  split at z
  ·rw[cH] at z;exact ⟨_,rfl,z⟩
  ·exact z.elim
 | .cmp op a b,X,S,E,g,e,h=>by
  sleep 3
  simp only[nl,decide_eq_true_eq] at h;obtain ⟨⟨⟨rfl,ha⟩,hb⟩,hn⟩:=h;exact Ck (g.cmp op) (sE a g ha) (sE b g hb) (c5 hn _)
 | .cmp2 o1 o2 a b c,X,S,E,g,e,h=>by
  sleep 3
  simp only[nl,decide_eq_true_eq] at h;obtain ⟨⟨⟨⟨⟨rfl,rfl⟩,ha⟩,hb⟩,hc⟩,hn⟩:=h;refine PE.imp (zO (cV.cn (g.cmp o1)) (g.cmp o2) (PE.cn (sE a g ha)) (PE.cn (sE b g hb)) (sE c g hc) (lW hn)) λU H Q q=>⟨_,q,λx H1 q1=>⟨_,q1,λy H2 q2=>⟨_,q2,λz H3 q3=>?_⟩⟩⟩
  split at q3
  ·rw[cH] at q3;exact ⟨_,rfl,q3⟩
  ·exact q3.elim
 | .cmp3 o1 o2 o3 a b c d,X,S,E,g,e,h=>by
  sleep 3
  simp only[nl,decide_eq_true_eq] at h;obtain ⟨⟨⟨⟨⟨⟨⟨rfl,rfl⟩,rfl⟩,ha⟩,hb⟩,hc⟩,hd⟩,hn⟩:=h;refine PE.imp (wF (cV.cn (g.cmp o1)) (cV.cn (g.cmp o2)) (g.cmp o3) (PE.cn (sE a g ha)) (PE.cn (sE b g hb)) (PE.cn (sE c g hc)) (sE d g hd) (tI hn)) λU H Q q=>⟨_,q,λx H1 q1=>⟨_,q1,λy H2 q2=>⟨_,q2,λz H3 q3=>?_⟩⟩⟩
  split at q3
  ·refine ⟨_,rfl,?_⟩;rw[cH] at q3
   split at q3
   ·rename_i hk;rw[if_pos hk];refine ⟨_,q3,λw H4 q4=>⟨_,q4,λz' H5 q5=>?_⟩⟩
    split at q5
    ·rw[cH] at q5;exact ⟨_,rfl,q5⟩
    ·exact q5.elim
   ·rename_i hk;rw[if_neg hk];exact q3
  ·exact q3.elim
 | .ife c a b,X,S,E,g,e,h=>by
  sleep 1
  simp only[nl] at h;exact PE.imp (Ae (PT.cn (sT c g h.1.1)) (sE a g h.1.2) (sE b g h.2)) λU H Q q=>⟨_,q,λk H1 z=>by rwa [cH] at z⟩
 | .tup es,X,S,E,g,e,h=>by
  sleep 1
  refine PE.imp (HC (PA.cn (vx es g h))) λU H Q q=>⟨_,q,λx H1 z=>by unfold gZ at z;exact ⟨nQ (by have:=z.1;omega),z.2⟩⟩
 | .lst es,X,S,E,g,e,h=>by
  sleep 1
  refine PE.imp (Gz (PA.cn (vx es g h))) λU H Q q=>⟨_,q,λx H1 z=>by unfold CM at z;exact ⟨nQ (by have:=z.1;omega),z.2⟩⟩
 | .ix a i,X,S,E,g,e,h=>by
  sleep 1
  simp only[nl] at h;have hr:JR X (qP G.R.K):=g.hK▸tG g.un;exact Ik hr (sE a g h.1.1) (sE i g h.1.2) (tL h.2)
 | .sl a lo hi,X,S,E,g,e,h=>by
  sleep 3
  simp only[nl] at h;have hr:Kt X (Eo G.R.K):=g.hK▸FT;exact yw hr (sE a g h.1.1) (sO lo g h.1.2) (sO hi g h.2)
 | .fld a f,X,S,E,g,e,h=>by
  sleep 1
  simp only[nl,decide_eq_true_eq] at h;obtain ⟨⟨ha,rfl⟩,hn⟩:=h;intro Y s U H Q I q;have q':wE G a U H (λx H1=>sV G f x H1 Q) (E U):=q;refine B0 (cj hn _ _ _) (aC (sE a g ha Y s U H _ I q') λu s1 ⟨x,H1,I1,rx,qf⟩=>?_);unfold sV at qf;obtain ⟨a,i,fs,v,ex,ea,hna,l,q⟩:=qf;subst ex;obtain rfl:u=Value.ref a:=rx;have n:=g.tab.na i f hna;rcases ea with ⟨ho,dx,ea⟩|⟨ho,dx,fr,ea⟩
  ·exact tT I1 ea (g.tab.oc i ho).1 n l λu' s' J rv=>⟨v,H1,J,rv,q⟩
  ·exact xu I1 ea (g.tab.xc i ho).1 n l λu' s' J rv=>⟨v,H1,J,rv,q⟩
 | .call f es,X,S,E,g,e,h=>by
  sleep 3
  rename_i es' pos _ xn p1 _;simp only[nl,decide_eq_true_eq] at h;obtain ⟨⟨h1,h2⟩,h3⟩:=h;obtain ⟨hg,hdb⟩:=g.glob h1;obtain ⟨hm,hk,d,hd⟩:=g.tab.gfn _ _ (g.hT▸h2);obtain ⟨fd,F,B⟩:=(g.fns f d hd).fact;obtain ⟨ds,hb,hv⟩:∃ ds,Binds X.K fd d.ps ds/\Vals (dflt G f es.len) ds:=by
   unfold dflt;rw[hd];exact B _
  intro Y s U H Q I q;obtain ⟨hc,q⟩:=(show G.cm=true/\wEs G es U H (λvs H1=>G.Ψ f (vs++dflt G f es.len) H1 Q (E U)) (E U) from q);have hr:bU k X.A:=(g.room hc).mono (Nat.le_succ _);cases es' with
  |nil=>
   cases es with
   |nil=>exact zu F hr hg hm hk hb hv g.pass hdb Y s U H Q I q
   |cons _ _=>cases (show false=true from h3)
  |cons e0 er=>
   have PAs:=vx es g h3;obtain ⟨ns,x0,xr,rfl,h4⟩:=bL h3;exact CH F hr hg hm hk hb hv g.pass PAs hdb (af ns) (aY h4 _ _) Y s U H Q I q
 | .meth a m es,X,S,E,g,e,h=>by
  sleep 3
  rename_i es' pos _ a' m' apos _;simp only[nl,decide_eq_true_eq] at h;obtain ⟨⟨⟨⟨⟨ha,rfl⟩,h3⟩,h4⟩,h5⟩,h6⟩:=h;intro Y s U H Q I q;obtain ⟨hc,q⟩:=(show G.cm=true/\_ from q);refine yy (n:=es.len+1) g hc (sE a g ha) (vx es g h3) (λz U H R hr=>?_) (λe r z=>?_) (λe r z=>?_) (mX h4 (vF h3 h6 _ _) h5) Y s U H Q I q
  ·subst z;cases es with
   |nil=>exact hr
   |cons _ _=>cases (show false=true from h3)
  ·subst z;exact af (bL h3).1
  ·subst z;have PAs:=vx es g h3;obtain ⟨ns,x0,xr,rfl,h4⟩:=bL h3;exact aY h4 _ _
 | .lm m a es,X,S,E,g,e,h=>by
  sleep 3
  rename_i es' pos _ a' m' apos _;simp only[nl,decide_eq_true_eq] at h;obtain ⟨⟨⟨⟨⟨ha,rfl⟩,h3⟩,h4⟩,h5⟩,h6⟩:=h;cases es' with
  |nil=>
   cases es with
   |nil=>exact PE.imp (GW PySem.F.plainAttrs_list (uL m) (EK m) (ER m) (PE.cn (sE a g ha)) (cj h4 _ _ _) h5) λU H Q q=>⟨_,q,λx H1 z=>by
     obtain ⟨p,xs0,ex,hp,q⟩:=z;subst ex;obtain ⟨xs,h1,h2⟩:=q;exact ⟨.inl ⟨rfl,xs0,aR.of hp⟩,p,xs,rfl,h1,h2⟩⟩
   |cons _ _=>cases (show false=true from h3)
  |cons e0 er=>
   have PAs:=vx es g h3;obtain ⟨ns,x0,xr,rfl,h7⟩:=bL h3;exact PE.imp (IJ PySem.F.plainAttrs_list (uL m) (EK m) (ER m) (PE.cn (sE a g ha)) (PA.cn PAs) (cj h4 _ _ _) (F5 h3 h6 _ _) h5 (af ns) (aY h7 _ _)) λU H Q q=>⟨_,q,λx H1 z=>by
     obtain ⟨p,xs0,ex,hp,q⟩:=z;subst ex;exact ⟨.inl ⟨rfl,xs0,aR.of hp⟩,_,q,λvs H2 ⟨xs,h1,h2⟩=>⟨p,xs,rfl,h1,h2⟩⟩⟩
 | .dget a k d,X,S,E,g,e,h=>by cases (show false=true from h)
 | .lix a b,X,S,E,g,e,h=>by cases (show false=true from h)
 | .make c es,X,S,E,g,e,h=>by
  sleep 3
  rename_i es' pos _ xn p1 _;simp only[nl,decide_eq_true_eq] at h;obtain ⟨⟨h1,h2⟩,h3⟩:=h;obtain ⟨hg,hdb⟩:=g.glob h1;have hm:=g.tab.gcl _ _ (g.hT▸h2);intro Y s U H Q I q
  conv at q=>whnf
  obtain ⟨hc,q⟩:=q
  split at q
  ·obtain ⟨h0,q⟩:=q;cases es' with
   |nil=>
    cases es with
    |nil=>exact absurd q.1 (by decide)
    |cons _ _=>cases (show false=true from h3)
   |cons e0 er=>
    have PAs:=vx es g h3;obtain ⟨ns,x0,xr,rfl,h4⟩:=bL h3;exact A5 (g.tab.ini0 c h0) hg hm PAs hdb (af ns) (aY h4 _ _) Y s U H Q I q
  ·rename_i f hf;obtain ⟨⟨d,hd⟩,hmk⟩:=g.tab.ini c f hf;obtain ⟨fd,F,B⟩:=(g.fns f d hd).fact;obtain ⟨ds,hb,hv⟩:∃ ds,Binds X.K fd d.ps ds/\Vals (dflt G f (es.len+1)) ds:=by
    unfold dflt;rw[hd];exact B _
   have hr:=g.room hc
   split at q
   ·rename_i hx;rw[if_pos hx] at hmk;cases es' with
    |nil=>
     cases es with
     |nil=>exact w6 hmk F hr hg hm hb hv g.pass hdb Y s U H Q I q
     |cons _ _=>cases (show false=true from h3)
    |cons e0 er=>
     have PAs:=vx es g h3;obtain ⟨ns,x0,xr,rfl,h4⟩:=bL h3;exact AO hmk F hr hg hm hb hv g.pass PAs hdb (af ns) (aY h4 _ _) Y s U H Q I q
   ·rename_i hx;rw[if_neg hx] at hmk;cases es' with
    |nil=>
     cases es with
     |nil=>exact yF hmk F hr hg hm hb hv g.pass hdb Y s U H Q I q
     |cons _ _=>cases (show false=true from h3)
    |cons e0 er=>
     have PAs:=vx es g h3;obtain ⟨ns,x0,xr,rfl,h4⟩:=bL h3;exact B8 hmk F hr hg hm hb hv g.pass PAs hdb (af ns) (aY h4 _ _) Y s U H Q I q
 | .bini es,X,S,E,g,e,h=>by
  sleep 4
  rename_i es' pos _ mm p2 _ xn p1 _;simp only[nl,decide_eq_true_eq] at h;obtain ⟨⟨⟨⟨⟨h1,rfl⟩,h2⟩,h3⟩,h4⟩,h5⟩:=h;obtain ⟨hg,hdb⟩:=g.glob h1;obtain ⟨B,hm,hB⟩:=g.tab.gbi _ (g.hT▸h2);cases es' with
  |nil=>
   cases es with
   |nil=>cases h4
   |cons _ _=>cases (show false=true from h3)
  |cons e0 er=>
   have PAs:=vx es g h3;obtain ⟨ns,x0,xr,rfl,h7⟩:=bL h3;refine PE.imp (F9 hB hg hm (PA.cn PAs) hdb (af ns) (aY h7 _ _) (mX (o:=.Name _ _) rfl (vF h3 (by rw[h4];decide) _ _) h5)) λU H Q q=>⟨_,q,λvs H1 z=>?_⟩
   obtain ⟨a,i,dx,fs,fr,v,ev,ea,hi,q⟩:=z;exact ⟨a,_,dx,fs,fr,v,ev,ea,(g.tab.xc i hi).1,q⟩
 | .cini c es,X,S,E,g,e,h=>by cases (show false=true from h)
 | .bf b es,X,S,E,g,e,h=>by
  sleep 3
  rename_i es' pos _ xn p1 _;simp only[nl,decide_eq_true_eq] at h;obtain ⟨⟨⟨⟨h1,rfl⟩,h2⟩,h3⟩,h4⟩:=h;obtain ⟨hg,hdb⟩:=g.glob h1;obtain ⟨hm,hn⟩:=g.tab.gbl _ (g.hT▸h2);cases es' with
  |nil=>
   cases es with
   |nil=>exact absurd h4 (by decide)
   |cons _ _=>cases (show false=true from h3)
  |cons e0 er=>
   have PAs:=vx es g h3;obtain ⟨ns,x0,xr,rfl,h7⟩:=bL h3;have hb:=D7 b;have hk:=ID g b;have key:∀ {v:Value},yx b=v->(∃ i,v=.builtin i)\/(∃ i,v=.type i):=by
    intro v hv;subst hv;cases b<;>first|exact .inl ⟨_,rfl⟩|exact .inr ⟨_,rfl⟩
   rcases key rfl with ⟨i,hi⟩|⟨i,hi⟩
   ·rw[hi] at hb hk;exact ql hk hg hm hb PAs hn hdb (af ns) (aY h7 _ _)
   ·rw[hi] at hb hk;exact wY hk hg hm hb PAs hn hdb (af ns) (aY h7 _ _)
 | .isi a c,X,S,E,g,e,h=>by
  sleep 4
  rename_i pos _ xn p1 _ _ a' c';simp only[nl,decide_eq_true_eq] at h;obtain ⟨⟨⟨⟨h1,rfl⟩,h2⟩,h3⟩,h4⟩:=h;obtain ⟨hg,hdb⟩:=g.glob h1;obtain ⟨hm,hn⟩:=g.tab.gbl _ (g.hT▸h2);have n1:notStar a'=true:=by
   cases a'<;>first|rfl|(cases a<;>cases (show false=true from h3))
  have n2:notStar c'=true:=by
   cases c'<;>first|rfl|(cases c<;>simp[BL] at h4)
  refine PE.imp (ql (Hi g c) hg hm Hg (k4 (PE.cn (sE a g h3)) (k4 (Km g h4) gp n2) n1) hn hdb (af n1) ?_) λU H Q q=>⟨_,q,λx H1 z=>⟨x,rfl,z⟩⟩
  rw[af n2]
  rfl
 | .lc elt sel it,X,S,E,g,e,h=>by
  sleep 2
  split at h
  iterate 3 (split at h;rotate_left;cases h)
  simp only[nl] at h;obtain ⟨⟨⟨h1,h2⟩,h3⟩,h4⟩:=h;intro Y s U H Q I q;obtain ⟨hc,q⟩:=(show G.cm=true/\wI G it U H (λJ H1=>yQ (λσ' H' Q'=>wE G elt σ' H' Q' (λ_ _=>False)) J (none::gH U sel) H1 Q) (E U) from q);rw[Ap] at q;obtain ⟨cl,C⟩:=cN g I.ok h1;exact AJ (g.cm hc) C (sI it g h2) (λs H fp=>sE elt (g.comp C s H fp) h3) (bX h4 _) Y s U H Q I q
 | .lci elt c sel it,X,S,E,g,e,h=>by cases (show false=true from h)
 | .lct elt n sel it,X,S,E,g,e,h=>by
  sleep 2
  split at h
  iterate 3 (split at h;rotate_left;cases h)
  simp only[nl,decide_eq_true_eq] at h;obtain ⟨⟨⟨⟨⟨h1,h5⟩,h6⟩,h2⟩,h3⟩,h4⟩:=h;intro Y s U H Q I q;obtain ⟨hc,q⟩:=(show G.cm=true/\wI G it U H (λJ H1=>LCt G.R.K n (λσ' H' Q'=>wE G elt σ' H' Q' (λ_ _=>False)) J (sK n none++gH U sel) H1 Q) (E U) from q);rw[yW,<-uY h6] at q;obtain ⟨cl,C⟩:=cN g I.ok h1;exact m8 (g.cm hc) C (sI it g h2) (λs H fp=>vf (g.comp C s H fp) hc h5) (λs H fp=>kf) (λs H fp=>sE elt (g.comp C s H fp) h3) (bX h4 _) Y s U H Q I q
 | .dnew,X,S,E,g,e,h=>by cases (show false=true from h)
 | .up a,X,S,E,g,e,h=>by cases (show false=true from h)
 | .isiT a cs,X,S,E,g,e,h=>by cases (show false=true from h)
 | .vU c,X,S,E,g,e,h=>by
  sleep 4
  simp only[nl,decide_eq_true_eq] at h;obtain ⟨⟨h1,h2⟩,h3⟩:=h;obtain ⟨hg,hdb⟩:=g.glob h1;refine PE.imp (yH (g.tab.inip c (g.hT▸h3)) hg (g.tab.gcl _ _ (g.hT▸h2)) hdb) λU H Q q=>?_
  have q':zx (G.R.cad c) H Q:=q;unfold zx at q';exact q'
 | .vals tp a,X,S,E,g,e,h=>by
  sleep 8
  simp only[nl,decide_eq_true_eq] at h;obtain ⟨⟨⟨⟨⟨⟨h1,rfl⟩,h2⟩,h3⟩,rfl⟩,h4⟩,h5⟩:=h;obtain ⟨hg,hdb⟩:=g.glob h1;obtain ⟨hm,hn⟩:=g.tab.gbl _ (g.hT▸h2);intro Y s U H Q I q;obtain ⟨hc,q⟩:=(show G.cm=true/\wE G a U H (λx H1=>rA tp x H1 Q) (E U) from q);refine Dk tp (g.cm hc) hg hm (PE.cn (sE a g h3)) (cj h4 _ _ _) h5 Y s U H Q I ⟨_,q,λx H1 z=>?_⟩;unfold rA at z;exact z
 | .disp ks es,X,S,E,g,e,h=>by
  sleep 1
  simp only[nl,decide_eq_true_eq] at h;obtain ⟨⟨⟨⟨h1,h2⟩,h3⟩,h4⟩,h5⟩:=h;intro Y s U H Q I q;have hk:=qJ h1;have hv:=AS h2;refine B4 (Mj es g h1 h2 h3) (qB h1) nofun (λz=>by rw[z] at hk;simp at hk;omega) nofun Y s U H Q I λp hp=>?_
  refine ⟨_,q p hp,λxs H2 hl z=>?_⟩;unfold uU at z;exact ⟨z.1,HX ks xs,AU,by have:=vy (ks:=ks) (xs:=xs);omega,z.2⟩
 | .dzip a b,X,S,E,g,e,h=>by
  sleep 8
  simp only[nl,decide_eq_true_eq] at h;obtain ⟨⟨⟨⟨⟨⟨⟨⟨⟨h1,rfl⟩,h2⟩,h3⟩,rfl⟩,h4⟩,h5⟩,h6⟩,n1⟩,n2⟩:=h;obtain ⟨hg,hdb⟩:=g.glob h1;obtain ⟨hm,hn⟩:=g.tab.gbl _ (g.hT▸h2);obtain ⟨hg',hdb'⟩:=g.glob h3;obtain ⟨hm',hn'⟩:=g.tab.gbl _ (g.hT▸h4);intro Y s U H Q I q;obtain ⟨hc,q⟩:=(show G.cm=true/\wE G a U H (λx H1=>wE G b U H1 (λy H2=>IV G.R.K x y H2 Q) (E U)) (E U) from q);refine DN (g.cm hc) hg hm hg' hm' (k4 (PE.cn (sE a g h5)) (k4 (PE.cn (sE b g h6)) gp n2) n1) (af n1) (by rw[af n2];rfl) Y s U H Q I ⟨_,q,λx H1 z=>⟨_,z,λy H2 z=>?_⟩⟩;unfold IV at z;exact ⟨_,_,rfl,g.hK▸z⟩
termination_by structural x=>x
theorem sI:∀ (x:GF){X:Cx}{S:Sn}{E:St->XK},Gd X G S k E->∀ {t e:Expr},mI S x t e=true->PI X t e (λU H R=>wI G x U H R (E U))
 | .rng1 a,X,S,E,g,t,e,h=>by
  sleep 4
  simp only[nl,decide_eq_true_eq] at h;obtain ⟨⟨⟨⟨h1,rfl⟩,h2⟩,h3⟩,n1⟩:=h;obtain ⟨hg,hdb⟩:=g.glob h1;obtain ⟨hm,hn⟩:=g.tab.gbl _ (g.hT▸h2);intro Y s U H R I q;refine wW hg hm (k4 (PE.cn (sE a g h3)) gp n1) (af n1) Y s U H R I ⟨_,q,λx H1 z=>?_⟩
  split at z
  ·exact ⟨_,rfl,z.1,z.2.1,z.2.2⟩
  ·exact z.elim
 | .rng2 a b,X,S,E,g,t,e,h=>by
  sleep 4
  simp only[nl,decide_eq_true_eq] at h;obtain ⟨⟨⟨⟨⟨⟨h1,rfl⟩,h2⟩,h3⟩,h4⟩,n1⟩,n2⟩:=h;obtain ⟨hg,hdb⟩:=g.glob h1;obtain ⟨hm,hn⟩:=g.tab.gbl _ (g.hT▸h2);intro Y s U H R I q;refine wM hg hm (k4 (PE.cn (sE a g h3)) (k4 (PE.cn (sE b g h4)) gp n2) n1) (by rw[af n1,af n2];rfl) (by rw[af n2];rfl) Y s U H R I ⟨_,q,λx H1 z=>⟨_,z,λy H2 z=>?_⟩⟩
  split at z
  ·exact ⟨_,_,rfl,z.1,z.2⟩
  ·exact z.elim
 | .rng3 a b c,X,S,E,g,t,e,h=>by cases (show false=true from h)
 | .enm a,X,S,E,g,t,e,h=>by
  sleep 4
  simp only[nl,decide_eq_true_eq] at h;obtain ⟨⟨⟨⟨⟨h1,rfl⟩,h2⟩,h3⟩,n1⟩,h5⟩:=h;obtain ⟨hg,hdb⟩:=g.glob h1;obtain ⟨hm,hn⟩:=g.tab.gbl _ (g.hT▸h2)
  split at h5
  ·intro Y s U H R I q;refine B2 hg hm (k4 (PE.cn (sE a g h3)) gp n1) (af n1) Y s U H R I ⟨_,q,λx H1 z=>?_⟩
   split at z
   ·unfold D8 at z;exact ⟨_,rfl,z.1,z.2⟩
   ·exact z.elim
  ·cases h5
 | .enf a,X,S,E,g,t,e,h=>by cases (show false=true from h)
 | .seq a,X,S,E,g,t,e,h=>by
  conv at h=>lhs;whnf
  intro Y s U H R I q;have q':wE G a U H (λx H1=>match x with| .ref p=>ub G.R.K p H1 R|_=>False) (E U):=q;rw[g.hK] at q';refine aC (sE a g h Y s U H _ I q') λv s1 ⟨x,H1,I1,r1,z⟩=>?_
  dsimp only at z
  split at z
  ·unfold ub at z;rcases z with ⟨⟨xs,hx⟩,z⟩|⟨⟨xs,hx⟩,z⟩
   ·exact wu I1 r1 hx z
   ·exact yT I1 r1 hx z
  ·exact z.elim
 | .zip a b,X,S,E,g,t,e,h=>by
  sleep 4
  simp only[nl,decide_eq_true_eq] at h;obtain ⟨⟨⟨⟨⟨⟨⟨h1,rfl⟩,h2⟩,h3⟩,h4⟩,n1⟩,n2⟩,h5⟩:=h;obtain ⟨hg,hdb⟩:=g.glob h1;obtain ⟨hm,hn⟩:=g.tab.gbl _ (g.hT▸h2)
  split at h5
  ·intro Y s U H R I q;refine Fh hg hm (k4 (PE.cn (sE a g h3)) (k4 (PE.cn (sE b g h4)) gp n2) n1) (af n1) (by rw[af n2];rfl) Y s U H R I ⟨_,q,λx H1 z=>⟨_,z,λy H2 z=>?_⟩⟩;unfold BW at z;exact ⟨_,_,rfl,g.hK▸z⟩
  ·cases h5
termination_by structural x=>x
theorem sO:∀ (x:KJ){X:Cx}{S:Sn}{E:St->XK},Gd X G S k E->∀ {e:Option Expr},mO S x e=true->PO X e (λU H Q=>wO G x U H Q (E U))
 | .no,X,S,E,g,none,h=>Dc
 | .no,X,S,E,g,some _,h=>by cases (show false=true from h)
 | .yes x,X,S,E,g,none,h=>by cases (show false=true from h)
 | .yes x,X,S,E,g,some e,h=>by
  conv at h=>lhs;whnf
  intro Y s U H Q I q;refine BQ (PE.cn (sE x g h)) Y s U H Q I ⟨_,q,λy H1 z=>?_⟩
  split at z
  ·exact ⟨_,rfl,z⟩
  ·exact z.elim
termination_by structural x=>x
theorem sT:∀ (x:Tx){X:Cx}{S:Sn}{E:St->XK},Gd X G S k E->∀ {e:Expr},mT S x e=true->PT X e (λU H Q=>wT G x U H Q (E U))
 | .not a,X,S,E,g,e,h=>by
  sleep 2
  exact HN (sT a g h)
 | .and a b,X,S,E,g,e,h=>by
  sleep 3
  simp only[nl] at h;exact PT.imp (FA (PT.cn (sT a g h.1)) (An (sT b g h.2))).pt λU H Q q=>⟨_,q,λk H1 z=>by rwa [cH] at z⟩
 | .or a b,X,S,E,g,e,h=>by
  sleep 3
  simp only[nl] at h;exact PT.imp (J4 (PT.cn (sT a g h.1)) (AN (sT b g h.2))).pt λU H Q q=>⟨_,q,λk H1 z=>by rwa [cH] at z⟩
 | .cmp op a b,X,S,E,g,e,h=>by
  sleep 3
  simp only[nl,decide_eq_true_eq] at h;obtain ⟨⟨⟨rfl,ha⟩,hb⟩,hn⟩:=h;refine PT.imp (Cz (cV.cn (g.cmp op)) (PE.cn (sE a g ha)) (PE.cn (sE b g hb)) (c5 hn _)) λU H Q q=>⟨_,q,λx H1 q1=>⟨_,q1,λy H2 q2=>⟨_,q2,λz H3 q3=>?_⟩⟩⟩
  split at q3
  ·exact ⟨_,rfl,q3⟩
  ·exact q3.elim
 | .cmp2 o1 o2 a b c,X,S,E,g,e,h=>by
  sleep 3
  simp only[nl,decide_eq_true_eq] at h;obtain ⟨⟨⟨⟨⟨rfl,rfl⟩,ha⟩,hb⟩,hc⟩,hn⟩:=h;refine PT.imp (yv (cV.cn (g.cmp o1)) (cV.cn (g.cmp o2)) (PE.cn (sE a g ha)) (PE.cn (sE b g hb)) (PE.cn (sE c g hc)) (lW hn)) λU H Q q=>⟨_,q,λx H1 q1=>⟨_,q1,λy H2 q2=>⟨_,q2,λz H3 q3=>?_⟩⟩⟩
  split at q3
  ·refine ⟨_,rfl,?_⟩;rw[cH] at q3
   split at q3
   ·rename_i hk;rw[if_pos hk];refine ⟨_,q3,λw H4 q4=>⟨_,q4,λz H5 q5=>?_⟩⟩
    split at q5
    ·exact ⟨_,rfl,q5⟩
    ·exact q5.elim
   ·rename_i hk;rw[if_neg hk];exact ⟨_,rfl,q3⟩
  ·exact q3.elim
 | .val x,X,S,E,g,e,h=>by
  have h:(mE S x e&&plainT e)=true:=h;simp only[nl] at h;refine PT.imp (yn (PE.cn (sE x g h.1)) (plainT_ok h.2 _)) λU H Q q=>⟨_,q,λy H1 z=>?_⟩
  exact g.hK▸HJ z
termination_by structural x=>x
theorem Mj:∀ (x:gC){X:Cx}{S:Sn}{E:St->XK},Gd X G S k E->∀ {ks:List Str}{keys:List (Option Expr)}{e:List Expr}{pos:Pos},oA ks keys=true->jm S x e=true->x.len=ks.length->PQ X pos keys e (λU H R=>∃ Q,wEs G x U H Q (E U)/\∀ xs H1,xs.length=x.len->Q xs H1->R (Kp ks xs) H1)
 | .nil,X,S,E,g,ks,keys,[],pos,h1,h,hl=>by
  obtain rfl:ks=[]:=List.eq_nil_of_length_eq_zero hl.symm;rw[kN h1];exact λY s U H R I ⟨Q,q,i⟩=>FU Y s U H R I (i [] H rfl q)
 | .nil,X,S,E,g,_,_,_::_,pos,h1,h,hl=>by cases (show false=true from h)
 | .cons x xs,X,S,E,g,_,_,[],pos,h1,h,hl=>by cases (show false=true from h)
 | .cons x xs,X,S,E,g,[],keys,e::es,pos,h1,h,hl=>by cases hl
 | .cons x xs,X,S,E,g,c::ks,keys,e::es,pos,h1,h,hl=>by
  have h:(mE S x e&&notStar e&&jm S xs es)=true:=h;simp only[nl] at h;obtain ⟨j,p,r,rfl,h2⟩:=i8 h1;intro Y s U H R I ⟨Q,q,i⟩;refine Dj yl (PE.cn (sE x g h.1.1)) (Mj xs g h2 h.2 (Nat.succ.inj hl)) Y s U H R I ?_;exact ⟨_,q,λy H2 z=>⟨_,z,λys H3 hy w=>i (y::ys) H3 (congrArg Nat.succ hy) w⟩⟩
termination_by structural x=>x
theorem vx:∀ (x:gC){X:Cx}{S:Sn}{E:St->XK},Gd X G S k E->∀ {e:List Expr},jm S x e=true->PA X e (λU H Q=>wEs G x U H Q (E U))
 | .nil,X,S,E,g,[],h=>gp
 | .nil,X,S,E,g,_::_,h=>by cases (show false=true from h)
 | .cons x xs,X,S,E,g,[],h=>by cases (show false=true from h)
 | .cons x xs,X,S,E,g,e::es,h=>by
  have h:(mE S x e&&notStar e&&jm S xs es)=true:=h;simp only[nl] at h;exact k4 (sE x g h.1.1) (vx xs g h.2) h.1.2
termination_by structural x=>x
end
end
end L3
namespace L2
open PySem PySem.Spec PyProof.Rows
variable {scope:Scope}{cl:List (Str×Addr)}{fr:List Str}{sel:List Nat}{s:Shared}
section
variable {X:Cx}
def gJ {elt iter tgt:Expr}{ifs:List Expr}{xs:List Str}{y:Str}{py pos spos:Pos}{wi:TI}{tg:TG}{tc:TT}{te:TE}{ni:Nat}(hc:X.calm=true)(S:bE X scope cl xs fr sel)(hi:PI X tgt iter wi)
  (hg:∀ (s:Shared) (H:Hp) (fp:List Addr),PG (fX X scope cl (xs++fr) s H fp) tgt tg) (ht:∀ (s:Shared) (H:Hp) (fp:List Addr),KN (fX X scope cl (xs++fr) s H fp) ifs tc)
  (he:∀ (s:Shared) (H:Hp) (fp:List Addr),PE (fX X scope cl (xs++fr) s H fp) elt te) (hs:∀ x,foldedSetIterable iter X.env x=pure x) (hN:X.N.Nodup) (hni:X.N[ni]? =some y) (hy:X.env.scope.names.lookup y=some .local)
  (hsw:swapsWith (.ListComp elt [⟨tgt,iter,ifs,0⟩] scope pos) (some (.Name y py)) spos.line X.env=pure true):PS X (.Assign [.Name y py] (.ListComp elt [⟨tgt,iter,ifs,0⟩] scope pos) spos) (λD U H=>Jv wi tg tc te xs sel U H λv H1=>D.nx (U.set ni (some v)) H1):=by
 intro Y s U H DD I h;rw[exec_Assign_Name_used _ _ _ _ hsw];refine ad (wpAny_standAt (ad ?_));show wpAny _ _ (do let _ <-comprehension (.ListComp elt [⟨tgt,iter,ifs,0⟩] scope pos) scope X.env _ (newList []) false (eval iter X.env) (some (assign (.Name y py) X.env))) _ _ s;refine ad (wpAny_mono (wpAny_comprehension_free (use:=some (assign (.Name y py) X.env)) (Q:=λ_ s'=>SP X Y DD .next s') rfl hs S.clos S.kind S.names ?_) (λ_ s' hq=>am (am hq)) λ_ _ e=>e);refine aC (hi Y s U H _ I h) λv s1 h1=>aC h1 λitv s2 h2=>?_
 obtain ⟨it,fp,tn,J,H2,e,I2,T,qd,f2,h2⟩:=h2;subst e;refine wpAny_newObj_type ?_;have hD:H2 s2.heap.objs.size=none:=I2.hok.fresh (re _);have I3:Inv X Y U (upd H2 s2.heap.objs.size (.lst [])) { s2 with heap:=s2.heap.push { cls:=.type "list",dict:=none,data:=.seq ([]:List Value).toArray } }:=
  I2.laid (t':=s2.toks) (λb u e=>ul _ e) (re _) ⟨Nat.zero_le _,[],0,.nil,v4 _ rfl⟩
 have fo2:∀ b ∈ fp,b<s2.heap.objs.size:=λb hb=>by
  obtain ⟨o,ho,_⟩:=T.obj _ _ qd b hb;exact ut ho
 have f3:∀ b ∈ fp,i4 X Y (upd H2 s2.heap.objs.size (.lst [])) b:=λb hb=>⟨by rw[ah (pi (fo2 b hb))];exact (f2 b hb).1,(f2 b hb).2⟩
 have st3:tn 0 (s2.heap.push { cls:=.type "list",dict:=none,data:=.seq ([]:List Value).toArray }):=T.keep _ _ _ qd λb hb o e=>ul _ e
 have fo3:∀ b ∈ fp,b<(s2.heap.push { cls:=.type "list",dict:=none,data:=.seq ([]:List Value).toArray }).objs.size:=λb hb=>by
  rw[Heap.size_push];exact Nat.lt_succ_of_lt (fo2 b hb)
 obtain ⟨W,⟨m0,w0⟩,turn⟩:=h2 _ hD;generalize s2.heap.objs.size=D at*;generalize hs3:({ s2 with heap:=s2.heap.push { cls:=.type "list",dict:=none,data:=.seq ([]:List Value).toArray } }:Shared)=s3 at*;have st3':tn 0 s3.heap:=by rw[<-hs3];exact st3
 have fo3':∀ b ∈ fp,b<s3.heap.objs.size:=by rw[<-hs3];exact fo3
 refine wpAny_newFunctionEnv S.nocell (by intro y hy;simp at hy) (λh' hns hsb=>?_) S.kind;have keep:∀ b o,s3.heap.get? b=some o->h'.get? b=some o:=λb o e=>(hsb.2 b (pi (ut e))).trans (ul _ e)
 have I4:=qR (tk:=s3.toks+([]:List (Str×Value)).length) S I3 f3 fo3' hns keep;have st4:tn 0 h':=T.keep _ _ _ st3' λb hb o e=>keep b o e
 have stat:∀ {H':Hp},(∀ b ∈ fp,H' b=none)->∀ b ∈ fp,i4 (fX X scope cl (xs++fr) s3 (upd H2 D (.lst [])) fp) (X.pn++Y) H' b:=λ{H'} hn b hb=>
  ⟨hn b hb,pi (fo3' b hb),λz=>(nb.mp (I3.iY b z)).elim (f3 b hb).2.1 (f3 b hb).2.2.1,.inl hb,λy c hy=>(f3 b hb).2.2.2.2.1 y c (S.sub y c hy),λp hp=>(f3 b hb).2.2.2.2.2 p (by simpa [fX] using hp)⟩
 have loop:codeAny (model X.prog X.w) X.A (.compLoop (.ListComp elt [⟨tgt,iter,ifs,0⟩] scope pos) 0 (.ref it) (.ref D) (compEnvC scope cl s3.heap.objs.size X.env))
   (compPost (model X.prog X.w) X.A X.xe (some (assign (.Name y py) X.env)) (λ_ s'=>SP X Y DD .next s') (.ref D) s3.heap.objs.size) { s3 with heap:=h',toks:=s3.toks+([]:List (Str×Value)).length }:=by
  refine codeAny_loop rfl (λn s'=>∃ i σ' H',Inv (fX X scope cl (xs++fr) s3 (upd H2 D (.lst [])) fp) (X.pn++Y) σ' H' s'/\tn i s'.heap/\(∀ b ∈ fp,H' b=none)/\W i n σ' H') (λn s5 hI=>?_) m0 ⟨0,_,_,I4,st4,λb hb=>(f3 b hb).1,w0⟩;show wpAny _ _ ((compTurn (.ListComp elt [⟨tgt,iter,ifs,0⟩] scope pos) 0 (.ref it) (.ref D) (compEnvC scope cl s3.heap.objs.size X.env)).onRaise (λx=>do noteFrame x (compEnvC scope cl s3.heap.objs.size X.env);theTreesLotGoes x)) _ _ s5;refine wpAny_noted ?_;refine vz (ht s3 (upd H2 D (.lst [])) fp).1 ?_;obtain ⟨i,σ5,H5,I5,st5,fr5,w5⟩:=hI;rcases turn i n σ5 H5 w5 with ⟨stop,q⟩|⟨go,Nn,hNn,step⟩
  ·refine aC (T.done (fX X scope cl (xs++fr) s3 (upd H2 D (.lst [])) fp) rfl rfl rfl hc i _ s5 σ5 H5 _ I5 (stat fr5) st5 stop) λr s6 ⟨hr,I6⟩=>?_
   subst hr;obtain ⟨m,hn,_⟩:=I6.loc;have J:Inv X Y U H5 s6:=I3.zS (ch:=fp) I6.os I6.base I6.hok I6.bare λb hb=>⟨(f3 b hb).2.2.2.1,(f3 b hb).2.1,(f3 b hb).2.2.2.2.1,(f3 b hb).2.2.2.2.2⟩
   have fC:H5 s3.heap.objs.size=none:=I6.free;have nL:s3.heap.objs.size≠X.env.locals:=Ne.symm (pi I3.lt);have nC:∀ z c,X.env.cells.lookup z=some c->c≠s3.heap.objs.size:=λz c e=>by
    obtain ⟨v,o,ho,_⟩:=I3.cell z c e;exact pi (ut ho)
   show wpAny _ _ (assign (.Name y py) X.env (.ref D)) _ _ s6;refine wpAny_assign_Name (nj J hN hni (.inl hy) (v:=.ref D) rfl (λs7 J7 hsb=>?_) (.inr hy));obtain ⟨a,sb,ha⟩:=hsb;have hne:s3.heap.objs.size≠a:=by
    rcases ha with ha|ha
    ·rw[ha];exact nL
    ·exact Ne.symm (nC _ _ ha)
   refine ⟨m,hn.sameBut sb hne,λh'' hs''=>⟨_,H5,?_,q⟩⟩;exact J7.turned (h':=h'') (t':=s7.toks) (it:=s3.heap.objs.size) (λb o hb e=>(hs''.2 b hb).trans e) fC nL (.inr I3.sz) nC λp hp=>pi (ut (I3.pin p hp).1)
  ·have fin:∀ {σ8:St}{H10:Hp}{s10:Shared},Inv (fX X scope cl (xs++fr) s3 (upd H2 D (.lst [])) fp) (X.pn++Y) σ8 H10 s10/\tn (i+1) s10.heap/\(∀ b ∈ fp,H10 b=none)->Nn σ8 H10->∃ m',m'<n/\∃ i σ' H',Inv (fX X scope cl (xs++fr) s3 (upd H2 D (.lst [])) fp) (X.pn++Y) σ' H' s10/\tn i s10.heap/\(∀ b ∈ fp,H' b=none)/\W i m' σ' H':=λ⟨I,t,f⟩ nn=>by
    obtain ⟨m',hm,w10⟩:=hNn _ _ nn;exact ⟨m',hm,i+1,_,_,I,t,f,w10⟩
   refine aC (T.item (fX X scope cl (xs++fr) s3 (upd H2 D (.lst [])) fp) rfl rfl rfl hc i _ s5 σ5 H5 _ I5 (stat fr5) st5 go) λr s6 ⟨u,hr,h6⟩=>?_
   subst hr;refine aC h6 λ_ s7 ⟨xv,H7,I7,r7,y7,st7,fr7⟩=>?_
   have I7':=I7.pinned (stat fr7) (T.obj _ _ st7);refine EB (hg s3 _ fp _ s7 σ5 H7 xv u _ I7' r7 (step xv _ y7)) λ_ s8 ⟨σ8,H8,I8,q8⟩=>?_
   refine EB ((ht s3 _ fp).2 _ s8 σ8 H8 _ I8 q8) λok s9 ⟨H9,I9,q9⟩=>?_
   have back:∀ {H10:Hp}{s10:Shared},Inv (fX X scope cl (xs++fr) s3 (upd H2 D (.lst [])) fp) _ σ8 H10 s10->Inv (fX X scope cl (xs++fr) s3 (upd H2 D (.lst [])) fp) (X.pn++Y) σ8 H10 s10/\tn (i+1) s10.heap/\(∀ b ∈ fp,H10 b=none):=λ{H10 s10} I10=>⟨I10.fw,T.keep _ _ _ st7 λb hb o e=>(I10.pin (b,o) (im _ (im _ (bT hb e)))).1,λb hb=>by
    obtain ⟨o,e,d⟩:=T.obj _ _ st7 b hb;exact (I10.pin (b,o) (im _ (im _ (bT hb e)))).2.1⟩
   refine ⟨λek=>?_,λek=>am ⟨rfl,fin (back I9) (q9.2 ek)⟩⟩;refine EB (he s3 _ fp _ s9 _ _ _ I9 (q9.1 ek)) λuv s10 ⟨vv,H10,I10,r10,zs,hz,hzl,n10⟩=>?_
   refine EB (iZ (X:=fX X scope cl (xs++fr) s3 (upd H2 D (.lst [])) fp) _ s10 _ H10 (.ref D) [vv] (.ref D) [uv] (λ_ H'=>H'=upd H10 D (.lst (zs++[vv]))) I10 rfl (.cons r10 .nil) ⟨D,zs,vv,rfl,rfl,hz,hzl,rfl⟩) λ_ s11 ⟨_,H11,I11,_,e11⟩=>?_
   subst e11;exact am ⟨rfl,fin (back I11) n10⟩
 exact codeAny_compStart_list loop (T.self _ 0 _ _ _ st4 loop)
def wZ {elt iter:Expr}{x y:Str}{px py pos spos:Pos}{wi:TI}{te:TE}{ni:Nat}(hc:X.calm=true)(S:bE X scope cl [x] fr sel)(hi:PI X (.Name x px) iter wi)
  (he:∀ (s:Shared) (H:Hp) (fp:List Addr),PE (fX X scope cl (x::fr) s H fp) elt te) (hs:∀ x,foldedSetIterable iter X.env x=pure x) (hN:X.N.Nodup) (hni:X.N[ni]? =some y) (hy:X.env.scope.names.lookup y=some .local)
  (hsw:swapsWith (.ListComp elt [⟨.Name x px,iter,[],0⟩] scope pos) (some (.Name y py)) spos.line X.env=pure true):PS X (.Assign [.Name y py] (.ListComp elt [⟨.Name x px,iter,[],0⟩] scope pos) spos) (λD U H=>ME wi te sel U H λv H1=>D.nx (U.set ni (some v)) H1):=λY s U H D I h=>
 gJ hc S hi.up (λs H fp=>tf S) (λ_ _ _=>kf) he hs hN hni hy hsw Y s U H D I ⟨_,h,λ_ _ q=>q.g⟩
section
variable {prog:Program}{w:World}{A:Around}{E:NC}
def mZ {it t:Addr}{items:Array Value}(hne:t≠it):∀ (n i:Nat) (s:Shared) (Q:List Value->Shared->Prop),s.heap.IsListIter it t i->s.heap.IsList t items->i+n<=items.size->
  (∀ h',h'.IsListIter it t (i+n)->Heap.SameBut it s.heap h'->Q ((items.toList.drop i).take n) { s with heap:=h' })->wpAny (model prog w) A (draw (.ref it) n) Q E s
 |0,i,s,Q,hit,_,_,hQ=>by
  show wpAny _ _ (pure []) Q E s;exact am (by simpa using hQ s.heap hit (Heap.SameBut.refl ..))
 |n+1,i,s,Q,hit,ht,hle,hQ=>by
  have hlt:i<items.size:=by omega
  show wpAny _ _ (pyNext (.ref it) >>= _) Q E s;refine ad (wpAny_pyNext_list_item hit ht (x:=items[i]) (by simp[hlt]) λh₁ hit₁ hs₁=>?_);refine ad (bd (mZ hne n (i+1) _ _ hit₁ (ht.extBut hs₁.extBut hne) nofun λh₂ hit₂ hs₂=>am ?_));have hd:items.toList.drop i=items[i]::items.toList.drop (i+1):=by simp[List.drop_eq_getElem_cons,hlt]
  have:=hQ h₂ (by rw[show i+(n+1)=i+1+n by omega];exact hit₂) (hs₁.trans hs₂);rw[hd,List.take_succ_cons] at this;exact this
def iW {t:Addr}{items:Array Value}{Q:List Value->Shared->Prop}(hh:A.handled=none)(ht:s.heap.IsList t items)(hty:s.TypeIs (.ref t) "list")
  (hQ:∀ h',Heap.ExtBut s.heap.objs.size s.heap h'->Q items.toList { s with heap:=h' }):wpAny (model prog w) A (unpackItems (.ref t) items.size none) Q E s:=by
 have hlt:t≠s.heap.objs.size:=by obtain ⟨o,ho,_⟩:=id ht;exact pi (ut ho)
 unfold unpackItems;refine ad ?_
 ·unfold notIterableAtAll;refine ad (wpAny_specialOf hty PySem.F.slot_list_iter.lookup ?_);refine am ?_;simp only[Bool.false_eq_true,if_false];refine ad (bd (wpAny_pyIter_list ht ?_));refine ad (bd (mZ hlt items.size 0 _ _ ⟨_,v4 _ rfl,rfl,rfl⟩ (ht.push _) nofun λh₁ hit₁ hs₁=>?_));have hall:List.take items.size (List.drop 0 items.toList)=items.toList:=by
   rw[drop_zero];exact take_of_length_le (by simp)
  rw[hall];rw[if_neg (by simp)];have ht₁:h₁.IsList t items:=(ht.push _).extBut hs₁.extBut hlt;refine ad (bd (wpAny_pyNext_list_end hh hit₁ ht₁ (by simp) λh₂ he₂=>?_));simp only[Option.isSome_none,Bool.false_eq_true,if_false];refine am (hQ h₂ λb o hb e=>he₂ b o hb (hs₁.extBut b o hb (ul _ e)))
end
def GL {es:List Expr}{k:Nat}{pos:Pos}{t:BI}{n:Nat}(hc:X.calm=true)(h:Fo X es t)
  (hn:(assignEach es X.env).length=n) (hst:(assignEach es X.env).findIdx? (·.1)=none){Y:ND}{U:St}{H:Hp}{a:Addr}{u:Value}{xs:List V}{Q:St->Hp->Prop}(I:Inv X Y U H s) (r:RelV (.ref a) u)
  (hq:aR X.K H a xs) (hl:xs.length=n) (hw:t xs U H Q):wpAny (model X.prog X.w) X.A (assign (.Tuple es k pos) X.env u) (λ_ s'=>∃ σ' H',Inv X Y σ' H' s'/\Q σ' H') X.xe s:=by
 cases r;obtain ⟨its,rv,p,hz⟩:=I.list hq;rw[assign_Tuple];refine ad (wpAny_standAt ?_);unfold unpack;have e1:(assignEach es X.env).length=its.toArray.size:=by
  rw[hn,<-hl];simp[rv.length]
 rw[e1,hst];refine ad (bd (iW (I.ok.hd hc) p.isList p.isList.typeIs λh' hx=>?_));have I1:Inv X Y U H { s with heap:=h' }:=I.kept (t':=s.toks) λb o e=>hx b o (pi (ut e)) e
 exact h Y _ U H xs _ Q I1 (by simpa using rv) hw
end
end L2
namespace L3
open PySem PySem.Spec L2
set_option maxHeartbeats 2000000
abbrev EC:Expr->Bool
 | .Tuple ..=>false
 |_=>true
abbrev yd (S:Sn):List Nat->List Expr->Bool
 | [],[]=>true
 |i::is,.Name x _::r=>S.loc i x&&yd S is r
 |_,_=>false
abbrev LD (S:Sn):KP->Expr->Bool
 | .nm i,e=>match e with| .Name x _=>S.loc i x|_=>false
 | .tp is,e=>match e with| .Tuple ts _ _=>yd S is ts|_=>false
 | .nt i is,e=>match e with| .Tuple y1 _ _=>(match y1 with| [y2,y3]=>(match y2 with| .Name x _=>(match y3 with| .Tuple ts _ _=>S.loc i x&&yd S is ts|_=>false)|_=>false)|_=>false)|_=>false
abbrev Sn.tS (S:Sn)(i:Nat)(x:Str):Bool:=decide (S.N[i]? =some x)&&decide (S.sc.names.lookup x=some .local)
abbrev JZ (S:Sn)(is:List Nat)(ts:List Expr):Bool:=match is with
 | [i,j]=>(match ts with| [a,b]=>(match a with| .Name x _=>(match b with| .Name y _=>S.tS i x&&(S.tS j y&&decide (i≠j))|_=>false)|_=>false)|_=>false)
 | [i,j,l]=>(match ts with| [a,b,c]=>(match a with| .Name x _=>(match b with| .Name y _=>(match c with| .Name z _=>S.tS i x&&(S.tS j y&&(S.tS l z&&(decide (i≠j)&&(decide (i≠l)&&decide (j≠l)))))|_=>false)|_=>false)|_=>false)|_=>false)
 |_=>false
mutual
noncomputable def mS (S:Sn):Sx->Stmt->Bool
 | .asg i e,s=>match s with| .Assign y1 e' _=>(match y1 with| [y2]=>(match y2 with| .Name x _=>S.loc i x&&mE S e e'|_=>false)|_=>false)|_=>false
 | .asgT is e,s=>match s with| .Assign y1 e' _=>(match y1 with| [y2]=>(match y2 with| .Tuple ts _ _=>yd S is ts&&mE S e e'&&EC e'|_=>false)|_=>false)|_=>false
 | .par is es,s=>match s with| .Assign y1 y2 _=>(match y1 with| [y3]=>(match y3 with| .Tuple ts kt pt=>(match y2 with| .Tuple vs k2 p2=>JZ S is ts&&jm S es vs&&GD S.sc (.Tuple ts kt pt) (.Tuple vs k2 p2) (is.filterMap λi=>S.N[i]?)|_=>false)|_=>false)|_=>false)|_=>false
 | .sub o i v,s=>match s with| .Assign y1 v' _=>(match y1 with| [y2]=>(match y2 with| .Subscript o' i' _=>mE S o o'&&mE S i i'&&mE S v v'&&fJ i'|_=>false)|_=>false)|_=>false
 | .fld o f v,s=>match s with| .Assign y1 v' _=>(match y1 with| [y2]=>(match y2 with| .Attribute o' f' _=>mE S o o'&&decide (f=f')&&mE S v v'|_=>false)|_=>false)|_=>false
 | .aug i op e,s=>match s with| .AugAssign y1 op' e' _=>(match y1 with| .Name x _=>S.loc i x&&decide (op=op')&&mE S e e'|_=>false)|_=>false
 | .augS o i op e,s=>match s with| .AugAssign y1 op' e' _=>(match y1 with| .Subscript o' i' _=>mE S o o'&&mE S i i'&&decide (op=op')&&mE S e e'&&fJ i'|_=>false)|_=>false
 | .ret e,s=>match s with| .Return y1 _=>(match y1 with|some e'=>mE S e e'|_=>false)|_=>false
 | .retN,_=>false
 | .pass,_=>false
 | .brk,_=>false
 | .cont,_=>false
 | .expr e,s=>match s with| .Expr e' _=>mE S e e'&&ux e'|_=>false
 | .ife c a b,s=>match s with| .If c' a' b' _=>mT S c c'&&mB S a a'&&mB S b b'|_=>false
 | .whl c b,s=>match s with| .While c' b' y1 _=>(match y1 with| []=>mT S c c'&&mB S b b'|_=>false)|_=>false
 | .for t it b,s=>match s with| .For t' it' b' y1 _=>(match y1 with| []=>LD S t t'&&mI S it t' it'&&mB S b b'&&cU it'|_=>false)|_=>false
 | .rais e,s=>match s with| .Raise y1 y2 _=>(match y1 with|some e'=>(match y2 with|none=>mE S e e'|_=>false)|_=>false)|_=>false
 | .tryx b hs,s=>match s with| .Try b' y1 y2 y3 _=>(match y1 with|h0::hs'=>(match y2 with| []=>(match y3 with| []=>mB S b b'&&mH S hs (h0::hs')|_=>false)|_=>false)|_=>false)|_=>false
noncomputable def mB (S:Sn):mQ->List Stmt->Bool
 | .nil,l=>l.isEmpty
 | .cons s r,l=>match l with|s'::r'=>mS S s s'&&mB S r r'| []=>false
noncomputable def mH (S:Sn):BD->List ExceptHandler->Bool
 | .nil,l=>l.isEmpty
 | .cons c i b hs,l=>match l with| .ExceptHandler (some (.Name x _)) (some n) (b0::bs) _::r=>S.nX x&&decide (S.T.gcl.lookup x=some c)&&decide (S.N[i]? =some n)&&decide (S.sc.names.lookup n=some .local)&&mB S b (b0::bs)&&mH S hs r|_=>false
end
structure Gs (X:Cx) (G:Gx) (S:Sn) (k:Nat) (E:St->XK):Prop extends Gd X G S k E where
 xok:G.cm=true->HP X E
 own:PassesOwn (model X.prog X.w) X.A X.env X.xe
 stk:X.stack=X.env::X.outer
 fr:X.env.frame=some X.env.locals
 fn:∀ x,X.fn x=true
variable {e elt:Expr}{ts:List Expr}{p:Pos}{gs:List Comprehension}{scope:Scope}
section
variable {X:Cx}{G:Gx}{S:Sn}{k:Nat}{E:St->XK}
def Gs.gu (g:Gs X G S k E){Y:ND}{xe:NC}{E':St->XK}(hx:HP (X.gu Y xe) E')(ho:PassesOwn (model X.prog X.w) X.A X.env xe):Gs (X.gu Y xe) G S k E' where
 hK:=g.hK
 hT:=g.hT
 sc:=g.sc
 N:=g.N
 nd:=g.nd
 pass:=nO hx
 cm:=g.cm
 room:=g.room
 un:=g.un
 tab:=g.tab
 fns:=g.fns
 xok:=λ_=>hx
 own:=ho
 stk:=g.stk
 fr:=g.fr
 fn:=g.fn
def Gs.bP (g:Gs X G S k E)(e:Value):Gs (X.bP e) { G with cm:=false } S k (λ_ _ _=>False) where
 hK:=g.hK
 hT:=g.hT
 sc:=g.sc
 N:=g.N
 nd:=g.nd
 pass:=λY U H s e s' I h=>by
  obtain ⟨e,H',C,dx,fs,T,_,_,_,_,_,_,_,_,_,q⟩:=h;exact q.elim
 cm:=λz=>by cases z
 room:=λz=>by cases z
 un:=g.un
 tab:=g.tab
 fns:=g.fns
 xok:=λz=>by cases z
 own:=PassesOwn.never
 stk:=g.stk
 fr:=g.fr
 fn:=g.fn
def lH (env:Env):∀ {is:List Nat}{ts:List Expr},yd S is ts=true->(assignEach ts env).length=is.length/\(assignEach ts env).findIdx? (·.1)=none
 | [],[],_=>⟨rfl,rfl⟩
 | [],_::_,h=>by simp[yd] at h
 |_::_,[],h=>by simp[yd] at h
 |i::is,t::ts,h=>by
  cases t<;>simp[yd] at h
  rename_i x p;obtain ⟨h1,h2⟩:=lH env h.2;have e:assignEach (.Name x p::ts) env=(false,assign (.Name x p) env)::assignEach ts env:=rfl;rw[e];refine ⟨by simp[h1],?_⟩;rw[List.findIdx?_cons];simp[h2]
def oB (g:Gs X G S k E):∀ {is:List Nat}{ts:List Expr},yd S is ts=true->Fo X ts (gl is)
 | [],[],_=>λY s U H vs us Q I r h=>om Y s U H vs us Q I r ⟨length_eq_zero_iff.mp h.1,by
   have:=h.2;have e:vs=[]:=length_eq_zero_iff.mp h.1;subst e;exact this⟩
 | [],_::_,h=>by simp[yd] at h
 |_::_,[],h=>by simp[yd] at h
 |i::is,t::ts,h=>by
  cases t<;>simp[yd] at h
  rename_i x p;obtain ⟨hi,hx⟩:=g.loc h.1;have h1:PG X (.Name x p) (gT i):=gQ (by rw[g.N];exact g.nd) hi hx (.inl (g.fn x));have h2:=oB g h.2;intro Y s U H vs us Q I r q;refine ik h1 h2 rfl Y s U H vs us Q I r ?_;obtain ⟨hl,q⟩:=q;cases vs with
  |nil=>simp at hl
  |cons v vs=>exact ⟨v,vs,rfl,by simpa using hl,q⟩
def Ek (g:Gs X G S k E)(hc:G.cm=true){t:KP}(h:LD S t e=true):PG X e (λv U H Q=>wG U t G.R.K v H λσ1=>Q σ1 H):=by
 cases t with
 |nm i=>
  conv at h=>lhs;whnf
  split at h
  ·obtain ⟨hi,hx⟩:=g.loc h;exact gQ (by rw[g.N];exact g.nd) hi hx (.inl (g.fn _))
  ·cases h
 |tp is=>
  conv at h=>lhs;whnf
  split at h
  ·intro Y s U H v u Q I r q;obtain ⟨a,xs,rfl,hq,hl,q⟩:=q;obtain ⟨e1,e2⟩:=lH X.env h;rw[g.hK] at hq;rcases hq with hq|hq
   ·exact qc (g.cm hc) (oB g h) e1 e2 Y s U H _ u Q I r ⟨a,xs,rfl,hq,hl,hl,q⟩
   ·exact GL (g.cm hc) (oB g h) e1 e2 I r hq hl ⟨hl,q⟩
  ·cases h
 |nt i is=>
  conv at h=>lhs;whnf
  split at h
  ·split at h
   ·split at h
    ·split at h
     ·intro Y s U H v u Q I r q;simp only[nl] at h;obtain ⟨a,y,b,ys,rfl,hq,hb,hl,q⟩:=q;obtain ⟨e1,e2⟩:=lH X.env h.2;obtain ⟨hi,hx⟩:=g.loc h.1;rw[g.hK] at hq hb;refine qc (n:=2) (g.cm hc) (ik (gQ (by rw[g.N];exact g.nd) hi hx (.inl (g.fn _))) (ik (qc (g.cm hc) (oB g h.2) e1 e2) om rfl) rfl) rfl rfl Y s U H _ u Q I r ⟨a,_,rfl,hq,rfl,y,_,rfl,.ref b,_,rfl,b,ys,rfl,hb,hl,hl,rfl,q⟩
     ·cases h
    ·cases h
   ·cases h
  ·cases h
def et {kk:Nat}(n:Nat)(env:Env):swapsWithSole [.Tuple ts kk p] e n env=pure false:=by
 cases e<;>rfl
def xV {o i:Expr}(n:Nat)(env:Env):swapsWithSole [.Subscript o i p] e n env=pure false:=by
 cases e<;>rfl
def xP {o:Expr}{f:Str}(n:Nat)(env:Env):swapsWith e (some (.Attribute o f p)) n env=pure false:=by
 cases e<;>rfl
def uE {kk:Nat}(env:Env)(h:EC e=true):swappedStores [.Tuple ts kk p] e env=pure none:=by
 cases e<;>first|rfl|cases h
def tZ {o i:Expr}(env:Env):swappedStores [.Subscript o i p] e env=pure none:=by
 cases e<;>rfl
def uA {o i:Expr}{pos:Pos}{env:Env}(h:fJ i=true):∀ v,assign (.Subscript o i pos) env v=(do
   let ov <-holding [v] (eval o env)
   let iv <-holding [v,ov] (eval i env)
   standAt pos
   holding [v,ov,iv] (setItem ov iv v)
   release [v,ov,iv] []):=by
 intro v;cases i<;>first|rfl|cases h
def Cg {i:Expr}(h:fJ i=true):∀ ov iv new,augStore i ov iv new=(do holding [new,ov,iv] (setItem ov iv new);release [new,ov,iv] [];pure .next):=by
 intro ov iv new;cases i<;>first|rfl|cases h
def EY (op:Operator):JA X op (Ku op):=by
 intro Y s U H x y v u Q I r1 r2 h;unfold Ku at h
 split at h
 ·exact Fs Y s U H _ _ v u Q I r1 r2 ⟨_,_,rfl,rfl,h⟩
 ·exact GJ Y s U H _ _ v u Q I r1 r2 ⟨_,_,rfl,rfl,h⟩
 ·exact h.elim
def G8 (g:Gd X G S k E):FF X (zM G.R.K):=by
 intro Y s U H x y v u Q I r1 r2 h;unfold zM at h;rw[g.hK] at h
 split at h
 ·obtain ⟨xs,w,h1,h2,h3,q⟩:=h;exact Am Y s U H _ _ v u Q I r1 r2 ⟨_,xs,_,w,rfl,rfl,h1,h2,h3,q⟩
 ·exact h.elim
def tK {py:Pos}{y:Str}{n:Nat}{env:Env}(hk:env.scope.kind=.function):∃ b,swapsWith (.ListComp elt gs scope p) (some (.Name y py)) n env=pure b/\(b=true->env.scope.names.lookup y=some .local):=by
 refine ⟨_,rfl,λh=>?_⟩;simp only[nl] at h;have:=h.1.1.2;exact beq_iff_eq.mp this
end
set_option maxHeartbeats 2000000
variable {S:Sn}{α:Type}
section
variable {k:Nat}
def IM {x:Ex}(h:mE S x (.ListComp elt gs scope p)=true):(∃ e' sel it y py iter,x=.lc e' sel it/\gs=[⟨.Name y py,iter,[],0⟩]/\
  gz S scope [y] sel=true/\mI S it (.Name y py) iter=true/\mE { S with sc:=dQ S.sc scope,N:=y::sel.filterMap λi=>S.N[i]? } e' elt=true/\cU iter=true)\/
  (∃ e' c sel it y py iter c',x=.lci e' c sel it/\gs=[⟨.Name y py,iter,[c'],0⟩]/\
  gz S scope [y] sel=true/\mI S it (.Name y py) iter=true/\mE { S with sc:=dQ S.sc scope,N:=y::sel.filterMap λi=>S.N[i]? } e' elt=true/\mT { S with sc:=dQ S.sc scope,N:=y::sel.filterMap λi=>S.N[i]? } c c'=true/\cU iter=true)\/
  ∃ e' n sel it ts kt pt iter,x=.lct e' n sel it/\gs=[⟨.Tuple ts kt pt,iter,[],0⟩]/\
  gz S scope (Dl ts) sel=true/\ye { S with sc:=dQ S.sc scope,N:=Dl ts++sel.filterMap λi=>S.N[i]? } (List.range n) ts=true/\(Dl ts).length=n/\mI S it (.Tuple ts kt pt) iter=true/\mE { S with sc:=dQ S.sc scope,N:=Dl ts++sel.filterMap λi=>S.N[i]? } e' elt=true/\cU iter=true:=by
 cases x<;>(try (cases (show false=true from h);done))
 all_goals (conv at h=>lhs;whnf)
 all_goals (iterate 5 (split at h<;>first|(cases h;done)|skip))
 all_goals (simp only[nl,decide_eq_true_eq] at h)
 all_goals first
  |exact .inl ⟨_,_,_,_,_,_,rfl,rfl,h.1.1.1,h.1.1.2,h.1.2,h.2⟩
  |exact .inr (.inl ⟨_,_,_,_,_,_,_,_,rfl,rfl,h.1.1.1.1,h.1.1.1.2,h.1.1.2,h.1.2,h.2⟩)
  |exact .inr (.inr ⟨_,_,_,_,_,_,_,_,rfl,rfl,h.1.1.1.1.1,h.1.1.1.1.2,h.1.1.1.2,h.1.1.2,h.1.2,h.2⟩)
def uq (e:Expr){x:Ex}(h:mE S x e=true):ux e=true\/∃ elt gs scope p,e=.ListComp elt gs scope p:=by
 cases e<;>first|exact .inl rfl|exact .inr ⟨_,_,_,_,rfl⟩|(cases x<;>cases (show false=true from h))
def IB {G:Gx}{X:Cx}{E:St->XK}(g:Gs X G S k E){i:Nat}{x:Str}{e:Ex}{e':Expr}{px:Pos}(hx:S.loc i x=true)(h:mE S e e'=true):PS X (.Assign [.Name x px] e' p) (λD U H=>wS (.asg i e) G D E U H):=by
 obtain ⟨hi,hl⟩:=g.loc hx;have hN:X.N.Nodup:=by rw[g.N];exact g.nd
 rcases uq e' h with hn|⟨elt,gs,scope,pp,rfl⟩
 ·exact A9 hN hi hl (sE e g.toGd h) (g7 hn _ _ _) (.inl (g.fn x))
 ·intro Y s U H D I q;obtain ⟨b,hb,hb2⟩:=tK (elt:=elt) (gs:=gs) (scope:=scope) (p:=pp) (py:=px) (y:=x) (n:=p.line) (env:=X.env) I.ok.kind;cases b with
  |false=>exact A9 hN hi hl (sE e g.toGd h) hb (.inl (g.fn x)) Y s U H D I q
  |true=>
   rcases IM h with ⟨e2,sel,it,y,py,iter,rfl,rfl,h1,h2,h3,h4⟩|⟨e2,c,sel,it,y,py,iter,c',rfl,rfl,h1,h2,h3,h5,h4⟩|⟨e2,n,sel,it,ts,kt,pt,iter,rfl,rfl,h1,h5,h6,h2,h3,h4⟩
   ·obtain ⟨hc,q⟩:=(show G.cm=true/\wI G it U H (λJ H1=>yQ (λσ' H' Q'=>wE G e2 σ' H' Q' (λ_ _=>False)) J (none::gH U sel) H1 (λx H1=>D.nx (U.set i (some x)) H1)) (E U) from q);rw[Ap] at q;obtain ⟨cl,C⟩:=cN g.toGd I.ok h1;exact wZ (g.cm hc) C (sI it g.toGd h2) (λs H fp=>sE e2 (g.toGd.comp C s H fp) h3) (bX h4 _) hN hi (hb2 rfl) hb Y s U H D I q
   ·obtain ⟨hc,q⟩:=(show G.cm=true/\wI G it U H (λJ H1=>Kw (λσ' H' Q'=>wT G c σ' H' Q' (λ_ _=>False)) (λσ' H' Q'=>wE G e2 σ' H' Q' (λ_ _=>False)) J (none::gH U sel) H1 (λx H1=>D.nx (U.set i (some x)) H1)) (E U) from q);rw[Hm] at q;obtain ⟨cl,C⟩:=cN g.toGd I.ok h1;exact gJ (g.cm hc) C (sI it g.toGd h2) (λs H fp=>tf C) (λs H fp=>D6 (sT c (g.toGd.comp C s H fp) h5)) (λs H fp=>sE e2 (g.toGd.comp C s H fp) h3) (bX h4 _) hN hi (hb2 rfl) hb Y s U H D I q
   ·obtain ⟨hc,q⟩:=(show G.cm=true/\wI G it U H (λJ H1=>LCt G.R.K n (λσ' H' Q'=>wE G e2 σ' H' Q' (λ_ _=>False)) J (sK n none++gH U sel) H1 (λx H1=>D.nx (U.set i (some x)) H1)) (E U) from q);rw[yW,<-uY h6] at q;obtain ⟨cl,C⟩:=cN g.toGd I.ok h1;exact gJ (g.cm hc) C (sI it g.toGd h2) (λs H fp=>vf (g.toGd.comp C s H fp) hc h5) (λs H fp=>kf) (λs H fp=>sE e2 (g.toGd.comp C s H fp) h3) (bX h4 _) hN hi (hb2 rfl) hb Y s U H D I q
def DS {xs:List α}{i j:Nat}(h:xs.length=[i,j].length):∃ a b,xs=[a,b]:=by
 match xs,h with
 | [a,b],_=>exact ⟨a,b,rfl⟩
def yb {xs:List α}{i j l:Nat}(h:xs.length=[i,j,l].length):∃ a b c,xs=[a,b,c]:=by
 match xs,h with
 | [a,b,c],_=>exact ⟨a,b,c,rfl⟩
mutual
theorem sS:∀ (x:Sx){G:Gx}{X:Cx}{S:Sn}{E:St->XK},Gs X G S k E->∀ {st:Stmt},mS S x st=true->PS X st (λD U H=>wS x G D E U H)
 | .asg i e,G,X,S,E,g,st,h=>by
  sleep 3
  simp only[nl] at h;exact IB g h.1 h.2
 | .asgT is e,G,X,S,E,g,st,h=>by
  sleep 3
  simp only[nl] at h;obtain ⟨⟨h1,h2⟩,h3⟩:=h;intro Y s U H D I q;obtain ⟨hc,q⟩:=(show G.cm=true/\wE G e U H (λx H1=>wG U (.tp is) G.R.K x H1 λσ1=>D.nx σ1 H1) (E U) from q);exact AL (sE e g.toGd h2) (Ek g hc (t:=.tp is) (by simp only[LD];exact h1)) (et _ _) (uE _ h3) rfl Y s U H D I q
 | .par is es,G,X,S,E,g,st,h=>by
  sleep 4
  rename_i pos _ _ ts kt pt _ vs k2 p2;simp only[nl] at h;obtain ⟨⟨h1,h2⟩,h3⟩:=h;intro Y s U H D I q;obtain ⟨hc,q⟩:=(show G.cm=true/\wEs G es U H (λxs H1=>xs.length=is.length/\D.nx (xb U is xs) H1) (E U) from q);have hN:X.N.Nodup:=by rw[g.N];exact g.nd
  rw[<-g.sc] at h3;unfold JZ at h1
  split at h1
  ·iterate 3 (split at h1;rotate_left;cases h1)
   rename_i i j _ _ x px _ y py;simp only[Sn.tS,nl,decide_eq_true_eq] at h1;obtain ⟨⟨a1,a2⟩,⟨b1,b2⟩,c1⟩:=h1;rw[filterMap_cons,a1,filterMap_cons,b1,List.filterMap_nil] at h3;obtain ⟨v1,v2,rfl⟩:=DU h3;rw[<-g.N] at a1 b1;rw[<-g.sc] at a2 b2;exact CD (g.cm hc) hN a1 b1 c1 a2 b2 (PA.cn (vx es g.toGd h2)) (ym h3) (et _ _) Y s U H D I ⟨_,q,λxs H1 z=>by
    obtain ⟨z1,z2⟩:=z;obtain ⟨u1,u2,rfl⟩:=DS z1;exact ⟨u1,u2,rfl,z2⟩⟩
  ·iterate 4 (split at h1;rotate_left;cases h1)
   rename_i i j l _ _ x px _ y py _ z pz;simp only[Sn.tS,nl,decide_eq_true_eq] at h1;obtain ⟨⟨a1,a2⟩,⟨b1,b2⟩,⟨d1,d2⟩,c1,c2,c3⟩:=h1;rw[filterMap_cons,a1,filterMap_cons,b1,filterMap_cons,d1,List.filterMap_nil] at h3;obtain ⟨v1,v2,v3,rfl⟩:=xa h3;rw[<-g.N] at a1 b1 d1;rw[<-g.sc] at a2 b2 d2;exact CB (g.cm hc) hN a1 b1 d1 c1 c2 c3 a2 b2 d2 (PA.cn (vx es g.toGd h2)) (ym h3) (et _ _) Y s U H D I ⟨_,q,λxs H1 z=>by
    obtain ⟨z1,z2⟩:=z;obtain ⟨u1,u2,u3,rfl⟩:=yb z1;exact ⟨u1,u2,u3,rfl,z2⟩⟩
  ·cases h1
 | .sub o i v,G,X,S,E,g,st,h=>by
  sleep 3
  simp only[nl] at h;obtain ⟨⟨⟨h1,h2⟩,h3⟩,h4⟩:=h;exact AL (sE v g.toGd h3) (Hk (sE o g.toGd h1) (sE i g.toGd h2) (vi g.un) (uA h4)) (xV _ _) (tZ _) rfl
 | .fld o f v,G,X,S,E,g,st,h=>by
  sleep 3
  simp only[nl,decide_eq_true_eq] at h;obtain ⟨⟨h1,rfl⟩,h3⟩:=h;intro Y s U H D I q;have q':wE G v U H (λy H1=>wE G o U H1 (λx H2=>BJ G f x y H2 (λH3=>D.nx U H3)) (E U)) (E U):=q;refine plainObj_wpAny_Assign_Attribute (aC (sE v g.toGd h3 Y s U H _ I q') λu s1 ⟨y,H1,I1,ry,q⟩=>aC (sE o g.toGd h1 Y s1 U H1 _ I1 q) λov s2 ⟨x,H2,I2,rx,q2⟩=>?_) (xP _ _);unfold BJ at q2;obtain ⟨a,i,rfl,hna,q2⟩:=q2;obtain rfl:ov=Value.ref a:=rx;have n:=g.tab.na i f hna;rcases q2 with ⟨dx,fs,ho,ea,l,q2⟩|⟨d,fs,fr,ho,ea,l,q2⟩|⟨fr,ho,ea,q2⟩
  ·exact t5 I2 ea (g.tab.oc i ho).1 n l ry λs3 I3=>⟨U,_,I3,q2⟩
  ·exact tB I2 ea (g.tab.xc i ho).1 n l ry λs3 I3=>⟨U,_,I3,q2⟩
  ·exact tV I2 ea (g.tab.xc i ho).1 n ry λd s3 hd I3=>⟨U,_,I3,q2 d hd⟩
 | .aug i op e,G,X,S,E,g,st,h=>by
  sleep 2
  simp only[nl,decide_eq_true_eq] at h;obtain ⟨⟨h1,rfl⟩,h3⟩:=h;obtain ⟨hi,hl⟩:=g.loc h1;refine PS.imp (Fi (by rw[g.N];exact g.nd) hi hl (sE e g.toGd h3) (EY op) (.inl (g.fn _))) λD U H q=>?_
  conv at q=>whnf
  split at q
  ·rename_i e;exact ⟨_,e,q⟩
  ·exact q.elim
 | .augS o i op e,G,X,S,E,g,st,h=>by
  sleep 2
  simp only[nl,decide_eq_true_eq] at h;obtain ⟨⟨⟨⟨h1,h2⟩,rfl⟩,h3⟩,h4⟩:=h;exact Df (sE o g.toGd h1) (sE i g.toGd h2) (G8 g.toGd) (sE e g.toGd h3) (EY op) (vi g.un) (Cg h4)
 | .ret e,G,X,S,E,g,st,h=>by
  sleep 2
  exact FG (sE e g.toGd h)
 | .retN,G,X,S,E,g,st,h=>by cases (show false=true from h)
 | .pass,G,X,S,E,g,st,h=>by cases (show false=true from h)
 | .brk,G,X,S,E,g,st,h=>by cases (show false=true from h)
 | .cont,G,X,S,E,g,st,h=>by cases (show false=true from h)
 | .expr e,G,X,S,E,g,st,h=>by
  sleep 1
  simp only[nl] at h;exact Ce (sE e g.toGd h.1) (g7 h.2 _ _ _)
 | .ife c a b,G,X,S,E,g,st,h=>by
  sleep 1
  simp only[nl] at h;exact PS.imp (IT (PT.cn (sT c g.toGd h.1.1)) (sB a g h.1.2) (sB b g h.2)) λD U H q=>⟨_,q,λk H1 z=>by rwa [cH] at z⟩
 | .whl c b,G,X,S,E,g,st,h=>by
  sleep 2
  simp only[nl] at h;refine PS.imp (y8 g.own (PT.cn (sT c g.toGd h.1)) (sB b g h.2)) λD U H q=>?_
  obtain ⟨W,w0,w1⟩:=q;exact ⟨W,w0,λm U H w=>⟨_,w1 m U H w,λk H1 z=>by rwa [cH] at z⟩⟩
 | .for t it b,G,X,S,E,g,st,h=>by
  sleep 2
  simp only[nl] at h;obtain ⟨⟨⟨h1,h2⟩,h3⟩,h4⟩:=h;intro Y s U H D I q
  conv at q=>whnf
  obtain ⟨hc,q⟩:=q;unfold mK at q;exact G4 g.own (g.cm hc) (sI it g.toGd h2) (Ek g hc h1) (sB b g h3) (bX h4 _) Y s U H D I q
 | .rais e,G,X,S,E,g,st,h=>by
  sleep 3
  intro Y s U H D I q
  conv at q=>whnf
  obtain ⟨hc,q⟩:=q;refine yr (g.xok hc) (g.cm hc) (PE.cn (sE e g.toGd h)) Y s U H D I ⟨_,q,λv H1 z=>?_⟩;obtain ⟨a,i,dx,fs,ev,ea,hi,q⟩:=z;exact ⟨a,_,dx,fs,ev,ea,(g.tab.xc i hi).1,q⟩
 | .tryx b hs,G,X,S,E,g,st,h=>by
  sleep 4
  simp only[nl] at h;intro Y s U H D I q;obtain ⟨hc,q⟩:=(show G.cm=true/\wB b G D (λσ' e H'=>wH hs G D σ' e H') U H from q);refine F4 (E':=λσ' e H'=>wH hs G D σ' e H') I g.stk g.fr (λxe hx ho=>?_) λσ' H' s' e C dx fs T J he hT hH hp st q'=>?_
  ·exact sB b (g.gu hx ho) h.1 [] s U H D (I.gu xe) q
  ·exact sH hs g h.2 J he hT hH hp st q'
theorem sB:∀ (x:mQ){G:Gx}{X:Cx}{S:Sn}{E:St->XK},Gs X G S k E->∀ {st:List Stmt},mB S x st=true->BX X st (λD U H=>wB x G D E U H)
 | .nil,G,X,S,E,g,[],h=>BY
 | .nil,G,X,S,E,g,_::_,h=>by cases (show false=true from h)
 | .cons x xs,G,X,S,E,g,[],h=>by cases (show false=true from h)
 | .cons x xs,G,X,S,E,g,st::sts,h=>by
  have h:(mS S x st&&mB S xs sts)=true:=h;simp only[nl] at h;exact AF (sS x g h.1) (sB xs g h.2)
theorem sH:∀ (x:BD){G:Gx}{X:Cx}{S:Sn}{E:St->XK},Gs X G S k E->∀ {hs:List ExceptHandler},mH S x hs=true->∀ {Y:ND}{U:St}{H:Hp}{s:Shared}{e C:Addr}{dx:Option Addr}{fs:List (Str×V)}{T:Addr}{D:Ends},
  L2.Inv X Y U H s->H e=some (.exc C dx fs false)->X.s₀.heap.objs.size<=T->H T=none->(∀ p ∈ X.pn++Y,p.1≠T)->BB s.heap e T .none->wH x G D U e H->wpAny (model X.prog X.w) X.A (handleBy (.ref e) X.env hs) (SP X Y D) X.xe s
 | .nil,G,X,S,E,g,hs,h,Y,U,H,s,e,C,dx,fs,T,D,I,he,hT,hH,hp,st,q=>by
  simp only[wH] at q
 | .cons c i b hs,G,X,S,E,g,l,h,Y,U,H,s,e,C,dx,fs,T,D,I,he,hT,hH,hp,st,q=>by
  conv at h=>lhs;whnf
  split at h
  ·simp only[nl,decide_eq_true_eq] at h;obtain ⟨⟨⟨⟨⟨h1,h2⟩,h3⟩,h4⟩,h5⟩,h6⟩:=h;obtain ⟨hg,hdb⟩:=g.glob h1;have hm:=g.tab.gcl _ _ (g.hT▸h2);obtain ⟨j,dx',fs',kk,he',hxc,hsub,q⟩:=(show ∃ j dx fs k,H e=some (.exc (G.R.cad j) dx fs false)/\G.T.xc.contains j=true/\G.T.sub.lookup (j,c)=some k/\_ from q);have ee:=he.symm.trans he'
   injection ee with ee
   injection ee with e1 e2 e3 e4
   subst e1;obtain ⟨_,hs2⟩:=g.tab.sub j c kk hsub;obtain ⟨hs3,hs4⟩:=hs2 hxc;refine qF (i:=i) I he hT hH hp st (g.tab.xc j hxc).1 hs4 hs3 hg hm (by rw[g.N];exact g.nd) (by rw[g.N];exact h3) (by rw[g.sc];exact h4) hdb (λhk s2 J=>?_) λhk=>?_
   ·rw[hk] at q;unfold iV at q;exact sB b (g.bP (.ref e)) h5 Y s2 _ H _ J q
   ·rw[hk] at q;unfold iV at q;exact sH hs g h6 I he hT hH hp st q
  ·cases h
end
end
abbrev c9 (T:Tab)(R:Rt):Nat->Nat->Sp
 |0,_=>λ_ _ _ _=>False
 |k+1,f=>λvs H Q E=>match T.fns[f]? with
  |some d=>vs.length=d.ps.length/\wB d.body ⟨T,R,c9 T R k,true⟩ { nx:=λ_ H'=>Q .non H',rt:=Q } (λ_=>E) (start d.N vs) H
  |none=>False
structure wb (K:W.Frag) (T:Tab) (f:Addr) (d:au):Prop where
 ex:∃ (name qual:Str) (params:Arguments) (body:List Stmt) (scope:Scope) (dV kV doc pm cdv ct oc:Value) (od an:Option Addr) (osl:Array (Option Value)),
  K.lookup f=some ⟨oc,od,.func (W.fnOf name qual params body scope dV kV doc pm an cdv ct),osl⟩/\W.codeIn K cdv qual=true/\kh d.N d.ps scope/\mB ⟨T,scope,d.N⟩ d.body body=true/\
  ∀ j,∃ ds,Binds K (W.fnOf name qual params body scope dV kV doc pm an cdv ct) d.ps ds/\Vals (d.dfl.drop j) ds
def Bh {P:Program}{w:World}{K:W.Frag}{mg:NF}{base:Heap}{T:Tab}{R:Rt}(tab:DM K mg T R)(hK:R.K=K)(fs:∀ f d,T.fns[f]? =some d->wb K T (R.fad f) d):
  ∀ (k f:Nat) (d:au),T.fns[f]? =some d->zK P w K mg base (2*k) (R.fad f) d (c9 T R k f)
 |0,f,d,hd=>by
  obtain ⟨name,qual,params,body,scope,dV,kV,doc,pm,cdv,ct,oc,od,an,osl,lk,hcd,S,hm,hb⟩:=(fs f d hd).ex;exact ⟨⟨_,⟨λ_ _ _ _ h=>h.elim,λ_ _ _ _ _ _ _ _ _ _ _ _ _ h=>h.elim⟩,hb⟩,λ_ _ _ _ _=>⟨λ_ _ _ _ h=>h.elim,λ_ _ _ _ _ _ _ _ _ _ _ _ _ h=>h.elim⟩⟩
 |k+1,f,d,hd=>by
  obtain ⟨name,qual,params,body,scope,dV,kV,doc,pm,cdv,ct,oc,od,an,osl,lk,hcd,S,hm,hb⟩:=(fs f d hd).ex;have F:=JJ (P:=P) (w:=w) (mg:=mg) (base:=base) (CX:=yP P w) (k:=2*k+1) (sp:=c9 T R (k+1) f) lk hcd S (λvs H Q E h=>?_) (λA outer s H vs Q E hr h=>?_)
  ·refine ⟨⟨_,F,hb⟩,λfd oc' od' osl' lk'=>?_⟩;have e:=lk.symm.trans lk'
   injection e with e
   injection e with e1 e2 e3 e4
   injection e3 with e3
   subst e3;exact F
  ·simp only[c9,hd] at h;exact h.1
  ·simp only[c9,hd] at h;refine ⟨λD U H=>wB d.body ⟨T,R,c9 T R k,true⟩ D (λ_=>E) U H,?_,h.2⟩;have hx:=xB (P:=P) (w:=w) (K:=K) (mg:=mg) (base:=base) (N:=d.N) (qual:=qual) (scope:=scope) (f:=R.fad f) (cd:=cdv) (A:=A) (outer:=outer) (E:=E) (s:=s) (H:=H);refine sB (k:=2*k) d.body (G:=⟨T,R,c9 T R k,true⟩) (S:=⟨T,scope,d.N⟩) { hK:=hK,hT:=rfl,sc:=rfl,N:=rfl,nd:=S.nd,pass:=nO hx,cm:=λ_=>rfl,room:=λ_=>hr,un:= ?_,tab:=tab,fns:=λf' d' hd'=>Bh tab hK fs k f' d' hd',xok:=λ_=>hx,own:=PassesOwn.leaving,stk:=rfl,fr:=rfl,fn:=λ_=>rfl } hm;have:=hr.un;show (A.deeper _).units+200<cLine
   omega
abbrev jx (K:W.Frag)(n:Nat):Sp:=λvs H Q _=>∃ (a:Addr) (ns:List Int),vs=[.ref a]/\aR K H a (ns.map V.int)/\ns.length<=n/\∀ H',Q (.bl true) H'
variable {P:Program}
def Ad {w:World}{H:Hp}{s:Shared}{e:Value}{s':Shared}(h:yP P w [] H s (λ_ _=>False) e s'):False:=by
 obtain ⟨e,H',C,dx,fs,T,_,_,_,_,_,_,_,_,_,q⟩:=h;exact q
variable {fd:FuncData}{ps:List Str}
def HE {K:W.Frag}(h:Binds K fd ps []):∀ j:Nat,∃ ds,Binds K fd ps ds/\Vals (([]:List V).drop j) ds:=λj=>⟨[],h,by simp;exact .nil⟩
def CA {K:W.Frag}{ds:List Value}{T:Addr}{o:Obj}{items:Array Value}{c n:Nat}(hd:fd.defaults=.ref T)(ho:K.lookup T=some o)(hs:o.data=.seq items c)(hn:n+ds.length=ps.length)
  (h:∀ us:List Value,us.length=n->∃ k:Option (Array Value)->Sem (List (Str×Value)),bindArgs fd ⟨us,[]⟩=seqItems? fd.defaults >>= k/\k (some items)=pure (ps.zip (us++ds))):Binds K fd ps ds:=λs us X hl=>by
 obtain ⟨k,h1,h2⟩:=h us (by rw[ci] at hl;omega);exact W.binds_K X hd ho hs h1 h2
def nz:∀ {vs:List V}{us:List Value}(j:Nat),Vals vs us->Vals (vs.drop j) (us.drop j)
 |_,_,0,h=>h
 |_,_,j+1,.nil=>by simp;exact .nil
 |_::_,_::_,j+1,.cons _ h=>by simpa using nz j h
def tP {α β:Type} [BEq α] [LawfulBEq α] {x:α}{y:β}:∀ {l:List (α×β)},l.lookup x=some y->(x,y) ∈ l
 | [],h=>by simp at h
 |(a,b)::l,h=>by
  rw[lookup_cons] at h;cases e:x ==a with
  |true=>
   rw[e] at h;have:=beq_iff_eq.mp e;subst this
   injection h with h
   subst h;exact mo
  |false=>
   rw[e] at h;exact dL _ (tP h)
def kM {β:Type} [BEq α] [LawfulBEq α] {P:α->β->Prop}{l:List (α×β)}(h:∀ p ∈ l,P p.1 p.2):∀ x y,l.lookup x=some y->P x y:=λx y e=>h (x,y) (tP e)
def gN {β γ:Type} [BEq α] [LawfulBEq α] [BEq β] [LawfulBEq β] {P:α->β->γ->Prop}{l:List ((α×β)×γ)}(h:∀ p ∈ l,P p.1.1 p.1.2 p.2):∀ x y z,l.lookup (x,y)=some z->P x y z:=λx y z e=>h ((x,y),z) (tP e)
def iX  [BEq α] [LawfulBEq α] {P:α->Prop}{l:List α}(h:∀ p ∈ l,P p):∀ x,l.contains x=true->P x:=λx e=>h x (by simpa using e)
def Dg {β:Type} [BEq α] [LawfulBEq α] [BEq β] [LawfulBEq β] {P:α->β->Prop}{l:List (α×β)}(h:∀ p ∈ l,P p.1 p.2):∀ x y,l.contains (x,y)=true->P x y:=λx y e=>h (x,y) (by simpa using e)
abbrev vR (P:Nat->au->Prop):Nat->List au->Prop
 |_,[]=>True
 |n,d::r=>P n d/\vR P (n+1) r
def Ee {P:Nat->au->Prop}:∀ {l:List au}{n:Nat},vR P n l->∀ f d,l[f]? =some d->P (n+f) d
 | [],_,_,f,d,e=>by simp at e
 |a::l,n,h,0,d,e=>by
  have:a=d:=by simpa using e
  subst this;exact h.1
 |a::l,n,h,f+1,d,e=>by
  have:=Ee h.2 f d (by simpa using e)
  rwa [Nat.add_assoc,Nat.add_comm 1 f] at this
def tG {P:Nat->au->Prop}{l:List au}(h:vR P 0 l):∀ f d,l[f]? =some d->P f d:=λf d e=>by
 have:=Ee h f d e
 rwa [Nat.zero_add] at this
def FO {w:World}{K:W.Frag}{mg:NF}{base:Heap}{T:Tab}{R:Rt}(tab:DM K mg T R)(hK:R.K=K)(fs:∀ f d,T.fns[f]? =some d->wb K T (R.fad f) d) (k fl:Nat) (d:au) (hd:T.fns[fl]? =some d)
  {oc:Value}{od:Option Addr}{osl:Array (Option Value)}(lk:K.lookup (R.fad fl)=some ⟨oc,od,.func fd,osl⟩) (h:∀ vs H Q E,jx K 63 vs H Q E->c9 T R k fl vs H Q E):dm P w K mg base (yP P w) (2*k) (R.fad fl) fd d.ps (jx K 63):=
 ((Bh tab hK fs k fl d hd).own _ _ _ _ lk).imp h
end L3
namespace L3
open PySem L2
abbrev mC:HO->HO
 | .lst _=>.lst []
 | .dK _=>.dK []
 | .dT _=>.dT []
 | .ins C dx _=>.ins C dx []
 | .exc C _ _ _=>.exc C none [] false
 |o=>o
abbrev kd:HO->Option String
 | .lst _=>some "list"
 | .tup _=>some "tuple"
 | .dK _=>some "dict"
 |_=>none
def vp (o:HO):kd (mC o)=kd o:=by cases o<;>rfl
abbrev kc (H H':Hp):Prop:=∀ a o,H a=some o->∃ o',H' a=some o'/\mC o'=mC o
def kc.tup {H H':Hp}(g:kc H H'){t:Addr}{xs:List V}(h:H t=some (.tup xs)):H' t=some (.tup xs):=by
 obtain ⟨o',h1,h2⟩:=g t _ h;have key:∀ u:HO,mC u=.tup xs->u=.tup xs:=λu=>by cases u<;>intro e<;>first|exact e|cases e
 rw[key o' h2] at h1;exact h1
variable {H:Hp}{t:String}
def kc.ty {H':Hp}(g:kc H H'){v:V}(h:tyName v H=some t):tyName v H'=some t:=by
 cases v<;>try exact h
 rename_i a;have h':(match H a with|some (.lst _)=>some "list"|some (.tup _)=>some "tuple"|some (.dK _)=>some "dict"|_=>none)=some t:=h;show (match H' a with|some (.lst _)=>some "list"|some (.tup _)=>some "tuple"|some (.dK _)=>some "dict"|_=>none)=some t;cases e:H a with
 |none=>rw[e] at h';cases h'
 |some o=>
  rw[e] at h';obtain ⟨o',h1,h2⟩:=g a _ e;rw[h1];have key:kd o'=kd o:=by rw[<-vp o',<-vp o,h2]
  have k1:∀ u:HO,(match some u with|some (HO.lst _)=>some "list"|some (.tup _)=>some "tuple"|some (.dK _)=>some "dict"|_=>none)=kd u:=λu=>by cases u<;>rfl
  rw[k1] at h'⊢;rw[key];exact h'
variable {a:Addr}{xs:List V}
def xC (e:H a=some (.lst xs)):tyName (.ref a) H=some "list":=by
 show (match H a with|some (.lst _)=>some "list"|some (.tup _)=>some "tuple"|some (.dK _)=>some "dict"|_=>none)=_;rw[e]
def Ka (e:H a=some (.tup xs)):tyName (.ref a) H=some "tuple":=by
 show (match H a with|some (.lst _)=>some "list"|some (.tup _)=>some "tuple"|some (.dK _)=>some "dict"|_=>none)=_;rw[e]
def kc.upd {o o':HO}(h:H a=some o)(e:mC o'=mC o):kc H (L2.upd H a o'):=λb u hb=>by
 by_cases z:b=a
 ·subst z;rw[h] at hb;cases hb;exact ⟨o',aA,e⟩
 ·exact ⟨u,(ah z).trans hb,rfl⟩
def kc.new {o':HO}(h:H a=none):kc H (L2.upd H a o'):=λb u hb=>⟨u,(ah λz=>by rw[z,h] at hb;cases hb).trans hb,rfl⟩
structure aB where
 p:Hp->(Addr->Prop)->Prop
 st:∀ H H' D,p H D->(∀ a,D a->H' a=H a)->kc H H'->p H' D
 up:∀ H D D',p H D->(∀ a,D a->D' a)->p H D'
abbrev pt (a:Addr)(o:HO):aB:=⟨λH D=>D a/\H a=some o,λH H' D h k _=>⟨h.1,(k a h.1).trans h.2⟩,λH D D' h k=>⟨k a h.1,h.2⟩⟩
abbrev tu (t:Addr)(xs:List V):aB:=⟨λH _=>H t=some (.tup xs),λH H' D h _ k=>k.tup h,λH D D' h _=>h⟩
abbrev tys (xs:List V):aB:=⟨λH _=>∀ x ∈ xs,∃ t,tyName x H=some t,λH H' D h _ k x hx=>let ⟨t,e⟩:=h x hx;⟨t,k.ty e⟩,λH D D' h _=>h⟩
abbrev pu (φ:Prop):aB:=⟨λ_ _=>φ,λ_ _ _ h _ _=>h,λ_ _ _ h _=>h⟩
abbrev ex {α:Type}(f:α->aB):aB:=⟨λH D=>∃ x,(f x).p H D,λH H' D ⟨x,h⟩ k t=>⟨x,(f x).st H H' D h k t⟩,λH D D' ⟨x,h⟩ k=>⟨x,(f x).up H D D' h k⟩⟩
abbrev qd (A B:aB):aB:=⟨λH D=>∃ D1 D2:Addr->Prop,(∀ a,D1 a->D a)/\(∀ a,D2 a->D a)/\(∀ a,D1 a->D2 a->False)/\A.p H D1/\B.p H D2,
 λH H' D ⟨D1,D2,s1,s2,dj,h1,h2⟩ k t=>⟨D1,D2,s1,s2,dj,A.st H H' D1 h1 (λa z=>k a (s1 a z)) t,B.st H H' D2 h2 (λa z=>k a (s2 a z)) t⟩,
 λH D D' ⟨D1,D2,s1,s2,dj,h1,h2⟩ k=>⟨D1,D2,λa z=>k a (s1 a z),λa z=>k a (s2 a z),dj,h1,h2⟩⟩
abbrev bD:List aB->Hp->(Addr->Prop)->Prop
 | [],_,_=>True
 |A::O,H,D=>∃ D1 D2:Addr->Prop,(∀ a,D1 a->D a)/\(∀ a,D2 a->D a)/\(∀ a,D1 a->D2 a->False)/\A.p H D1/\bD O H D2
abbrev Sep (O:List aB)(H:Hp):Prop:=∃ D:Addr->Prop,(∀ a,D a->H a≠none)/\bD O H D
inductive ag (A:aB):List aB->List aB->Prop where
 |e {O:List aB}:ag A (A::O) O
 |t {B:aB}{O Γ':List aB}(h:ag A O Γ'):ag A (B::O) (B::Γ')
section
variable {A B:aB}{O Γ':List aB}{H H':Hp}{a b p t:Addr}{o o':HO}{xs:List V}{φ:Prop}
def bD.st:∀ {O:List aB}{H H':Hp}{D:Addr->Prop},bD O H D->(∀ a,D a->H' a=H a)->kc H H'->bD O H' D
 | [],_,_,_,_,_,_=>True.intro
 |A::O,H,H',D,⟨D1,D2,s1,s2,dj,h1,h2⟩,k,t=>⟨D1,D2,s1,s2,dj,A.st H H' D1 h1 (λa z=>k a (s1 a z)) t,bD.st h2 (λa z=>k a (s2 a z)) t⟩
def bD.up:∀ {O:List aB}{H:Hp}{D D':Addr->Prop},bD O H D->(∀ a,D a->D' a)->bD O H D'
 | [],_,_,_,_,_=>True.intro
 |A::O,H,D,D',⟨D1,D2,s1,s2,dj,h1,h2⟩,k=>⟨D1,D2,λa z=>k a (s1 a z),λa z=>k a (s2 a z),dj,h1,h2⟩
def Sep.nil:Sep [] H:=⟨λ_=>False,λ_ z=>z.elim,True.intro⟩
def bD.pull:∀ {O Γ':List aB}{D:Addr->Prop},ag A O Γ'->bD O H D->bD (A::Γ') H D:=by
 intro O Γ' D h
 induction h generalizing D with
 |e=>exact λz=>z
 |t h ih=>
  rintro ⟨D1,D2,s1,s2,dj,h1,h2⟩;obtain ⟨E1,E2,t1,t2,ej,k1,k2⟩:=ih h2;refine ⟨E1,λa=>D1 a\/E2 a,λa z=>s2 a (t1 a z),λa z=>z.elim (s1 a) λz=>s2 a (t2 a z),λa z1 z2=>?_,k1,D1,E2,λa z=>.inl z,λa z=>.inr z,λa z1 z2=>dj a z1 (t2 a z2),h1,k2⟩;rcases z2 with z2|z2
  ·exact dj a z2 (t1 a z1)
  ·exact ej a z1 z2
def Sep.pull (h:ag A O Γ')(s:Sep O H):Sep (A::Γ') H:=let ⟨D,k,z⟩:=s;⟨D,k,bD.pull h z⟩
def bD.push:∀ {O Γ':List aB}{D:Addr->Prop},ag A O Γ'->bD (A::Γ') H D->bD O H D:=by
 intro O Γ' D h
 induction h generalizing D with
 |e=>exact λz=>z
 |t h ih=>
  rintro ⟨D1,D2,s1,s2,dj,h1,E1,E2,t1,t2,ej,k1,k2⟩;refine ⟨E1,λa=>D1 a\/E2 a,λa z=>s2 a (t1 a z),λa z=>z.elim (s1 a) λz=>s2 a (t2 a z),λa z1 z2=>?_,k1,ih ⟨D1,E2,λa z=>.inl z,λa z=>.inr z,λa z1 z2=>dj a z1 (t2 a z2),h1,k2⟩⟩;rcases z2 with z2|z2
  ·exact dj a z2 (t1 a z1)
  ·exact ej a z1 z2
def Sep.push (h:ag A O Γ')(s:Sep (A::Γ') H):Sep O H:=let ⟨D,k,z⟩:=s;⟨D,k,bD.push h z⟩
def Sep.drop (s:Sep (A::O) H):Sep O H:=let ⟨D,k,D1,D2,s1,s2,dj,h1,h2⟩:=s;⟨D2,λa z=>k a (s2 a z),h2⟩
def Sep.at (s:Sep (pt a o::O) H):H a=some o:=let ⟨D,k,D1,D2,s1,s2,dj,h1,h2⟩:=s;h1.2
def Sep.atT (s:Sep (tu t xs::O) H):H t=some (.tup xs):=let ⟨D,k,D1,D2,s1,s2,dj,h1,h2⟩:=s;h1
def Sep.pure (s:Sep (pu φ::O) H):φ:=let ⟨D,k,D1,D2,s1,s2,dj,h1,h2⟩:=s;h1
def Sep.tF (h:φ)(s:Sep O H):Sep (pu φ::O) H:=let ⟨D,k,h2⟩:=s;⟨D,k,λ_=>False,D,λ_ z=>z.elim,λ_ z=>z,λ_ z _=>z,h,h2⟩
def Sep.Kk (h:H t=some (.tup xs))(s:Sep O H):Sep (tu t xs::O) H:=let ⟨D,k,h2⟩:=s;⟨D,k,λ_=>False,D,λ_ z=>z.elim,λ_ z=>z,λ_ z _=>z,h,h2⟩
def Sep.ne (s:Sep (pt a o::pt b o'::O) H):a≠b:=by
 obtain ⟨D,k,D1,D2,s1,s2,dj,h1,E1,E2,t1,t2,ej,k1,k2⟩:=s;rintro rfl;exact dj a h1.1 (t1 a k1.1)
def Sep.set (s:Sep (pt a o::O) H)(n:mC o'=mC o):Sep (pt a o'::O) (upd H a o'):=by
 obtain ⟨D,k,D1,D2,s1,s2,dj,h1,h2⟩:=s;refine ⟨D,λb z=>?_,D1,D2,s1,s2,dj,⟨h1.1,aA⟩,bD.st h2 (λb z=>ah λe=>dj a h1.1 (e▸z)) (kc.upd h1.2 n)⟩
 by_cases e:b=a
 ·rw[e,aA];exact λz=>by cases z
 ·rw[ah e];exact k b z
def Sep.new (s:Sep O H)(h:H p=none):Sep (pt p o::O) (upd H p o):=by
 obtain ⟨D,k,z⟩:=s;have ne:∀ b,D b->b≠p:=λb hb e=>k b hb (e▸h)
 refine ⟨λb=>b=p\/D b,λb hb=>?_,λb=>b=p,D,λb e=>.inl e,λb e=>.inr e,λb e z=>ne b z e,⟨rfl,aA⟩,bD.st z (λb hb=>ah (ne b hb)) (kc.new h)⟩;rcases hb with rfl|hb
 ·rw[aA];exact λz=>by cases z
 ·rw[ah (ne b hb)];exact k b hb
def Sep.gZ (s:Sep O H)(h:H p=none):Sep (tu p xs::O) (upd H p (.tup xs)):=Sep.Kk aA (Sep.drop (s.new (o:=.tup xs) h))
def Sep.toT (s:Sep (pt t (.tup xs)::O) H):Sep (tu t xs::O) H:=Sep.Kk s.at s.drop
def Sep.star:Sep (qd A B::O) H ↔ Sep (A::B::O) H:=by
 constructor
 ·rintro ⟨D,k,D1,D2,s1,s2,dj,⟨E1,E2,t1,t2,ej,k1,k2⟩,h2⟩;refine ⟨D,k,E1,λa=>E2 a\/D2 a,λa z=>s1 a (t1 a z),λa z=>z.elim (λz=>s1 a (t2 a z)) (s2 a),λa z1 z2=>?_,k1,E2,D2,λa z=>.inl z,λa z=>.inr z,λa z1 z2=>dj a (t2 a z1) z2,k2,h2⟩;rcases z2 with z2|z2
  ·exact ej a z1 z2
  ·exact dj a (t1 a z1) z2
 ·rintro ⟨D,k,D1,D2,s1,s2,dj,h1,E1,E2,t1,t2,ej,k1,k2⟩;refine ⟨D,k,λa=>D1 a\/E1 a,E2,λa z=>z.elim (s1 a) λz=>s2 a (t1 a z),λa z=>s2 a (t2 a z),λa z1 z2=>?_,⟨D1,E1,λa z=>.inl z,λa z=>.inr z,λa z1 z2=>dj a z1 (t1 a z2),h1,k1⟩,k2⟩;rcases z1 with z1|z1
  ·exact dj a z1 (t2 a z2)
  ·exact ej a z1 z2
def Sep.HV {α:Type}{f:α->aB}:Sep (ex f::O) H ↔ ∃ x,Sep (f x::O) H:=by
 constructor
 ·rintro ⟨D,k,D1,D2,s1,s2,dj,⟨x,h1⟩,h2⟩;exact ⟨x,D,k,D1,D2,s1,s2,dj,h1,h2⟩
 ·rintro ⟨x,D,k,D1,D2,s1,s2,dj,h1,h2⟩;exact ⟨D,k,D1,D2,s1,s2,dj,⟨x,h1⟩,h2⟩
def Sep.Kn (s:Sep (tys xs::O) H):∀ x ∈ xs,∃ t,tyName x H=some t:=let ⟨D,k,D1,D2,s1,s2,dj,h1,h2⟩:=s;h1
def Sep.free (h:∀ D,A.p H D) (s:Sep O H):Sep (A::O) H:=let ⟨D,k,h2⟩:=s;⟨D,k,λ_=>False,D,λ_ z=>z.elim,λ_ z=>z,λ_ z _=>z,h _,h2⟩
def Sep.Jx (h:∀ x ∈ xs,∃ t,tyName x H=some t) (s:Sep O H):Sep (tys xs::O) H:=s.free λ_=>h
def Sep.get (s:Sep O H)(h:ag (pt a o) O Γ'):H a=some o:=(s.pull h).at
def Sep.ef (s:Sep O H)(h:ag (tu t xs) O Γ'):H t=some (.tup xs):=(s.pull h).atT
inductive a9 (A B:aB):List aB->List aB->Prop where
 |e {O:List aB}:a9 A B (A::O) (B::O)
 |t {C:aB}{O Γ':List aB}(h:a9 A B O Γ'):a9 A B (C::O) (C::Γ')
def a9.bO (h:a9 A B O Γ'):∃ Δ,ag A O Δ/\ag B Γ' Δ:=by
 induction h with
 |e=>exact ⟨_,.e,.e⟩
 |t h ih=>
  obtain ⟨Δ,h1,h2⟩:=ih;exact ⟨_,.t h1,.t h2⟩
def Sep.put (s:Sep O H)(h:a9 (pt a o) (pt a o') O Γ')(n:mC o'=mC o):Sep Γ' (upd H a o'):=by
 obtain ⟨Δ,h1,h2⟩:=h.bO;exact ((s.pull h1).set n).push h2
inductive Sub:List aB->List aB->Prop where
 |refl {O:List aB}:Sub O O
 |nil {O:List aB}:Sub [] O
 |cons {A:aB}{O Γ' Δ:List aB}(h:ag A O Δ) (r:Sub Γ' Δ):Sub (A::Γ') O
 |drop {A:aB}{O Γ':List aB}(r:Sub Γ' O):Sub Γ' (A::O)
def bD.sub:∀ {O Γ':List aB}{D:Addr->Prop},Sub Γ' O->bD O H D->bD Γ' H D:=by
 intro O Γ' D h
 induction h generalizing D with
 |refl=>exact λz=>z
 |nil=>exact λ_=>True.intro
 |cons h r ih=>
  intro z;obtain ⟨D1,D2,s1,s2,dj,h1,h2⟩:=bD.pull h z;exact ⟨D1,D2,s1,s2,dj,h1,ih h2⟩
 |drop r ih=>
  rintro ⟨D1,D2,s1,s2,dj,h1,h2⟩;exact (ih h2).up s2
def Sep.sub (h:Sub Γ' O)(s:Sep O H):Sep Γ' H:=let ⟨D,k,z⟩:=s;⟨D,k,bD.sub h z⟩
end
@[irreducible] noncomputable def ab (T:Tab) (R:Rt) (k f:Nat):Sp:=c9 T R k f
def qI:ab=c9:=by
 funext T R k f
 unfold ab
 rfl
variable {Q:VK}
def wc {T:Tab}{R:Rt}{k f:Nat}{d:au}{vs:List V}{E:XK}(hk:0<k)(hd:T.fns[f]? =some d)(hl:vs.length=d.ps.length)
  (h:wB d.body ⟨T,R,ab T R (k-1),true⟩ { nx:=λ_ H'=>Q .non H',rt:=Q } (λ_=>E) (start d.N vs) H):ab T R k f vs H Q E:=by
 rw[qI] at h⊢;cases k with
 |zero=>exact absurd hk (by decide)
 |succ k=>
  show (match T.fns[f]? with|some d=>_|none=>False);rw[hd];exact ⟨hl,h⟩
variable {c:Bool}
def bY {A B:Prop}(h1:c=true->A)(h2:c=false->B):iV c A B:=by
 unfold iV;cases c
 ·exact h2 rfl
 ·exact h1 rfl
def aK {A B:Prop}(h:c=true)(h1:A):iV c A B:=by subst h;unfold iV;exact h1
def ak {A B:Prop}(h:c=false)(h1:B):iV c A B:=by subst h;unfold iV;exact h1
def GU {A B:Prop}(h:iV c B A):iV (!c) A B:=by
 unfold iV at h⊢;cases c
 ·exact h
 ·exact h
def ax {p:Prop} [Decidable p] {A B:Prop}(h1:p->A)(h2:¬ p->B):iV (decide p) A B:=bY (λh=>h1 (of_decide_eq_true h)) λh=>h2 (of_decide_eq_false h)
def az {i j:Int}{A B:Prop}(h1:i=j->A)(h2:i≠j->B):iV (dr (.int i) (.int j)) A B:=by
 show iV (i ==j) A B;exact bY (λh=>h1 (by simpa using h)) λh=>h2 (by simpa using h)
variable {dx:Addr}{n:Nat}{fs:List (Str×V)}{es:List V}{R:Hp->Prop}{fr:Bool}
section
variable {K:W.Frag}{G:Gx}{O Γ':List aB}{H:Hp}{Q:VK}{a p:Addr}{o:HO}{xs ys:List V}{v w:V}{i:Int}{f:Str}
def al (s:Sep O H)(h:∀ p H',Sep (pt p o::O) H'->Q (.ref p) H'):∀ p,H p=none->Q (.ref p) (upd H p o):=λp hp=>h p _ (s.new hp)
def hR {C x:Addr}(s:Sep O H)(h1:H x=none)(h2:H dx=none)(h3:dx≠x):Sep (pt x (.ins C dx [])::pt dx (.own x)::O) (upd (upd H dx (.own x)) x (.ins C dx [])):=(s.new h2).new (by rw[ah h3.symm];exact h1)
def fu {dx:Option Addr}{E:XK}(s:Sep O H)(r:a9 (pt a (.exc (G.R.cad n) dx fs true)) (pt a (.exc (G.R.cad n) dx fs false)) O Γ')(ho:G.T.xc.contains n=true)(h:∀ H',Sep Γ' H'->E a H'):
  ∃ b i dx fs,V.ref a=.ref b/\H b=some (.exc (G.R.cad i) dx fs true)/\G.T.xc.contains i=true/\E b (upd H b (.exc (G.R.cad i) dx fs false)):=by
 obtain ⟨Δ,h1,h2⟩:=r.bO;exact ⟨a,n,dx,fs,rfl,s.get h1,ho,h _ (s.put r rfl)⟩
def MQ (s:Sep O H)(h:∀ p H',Sep (tu p xs::O) H'->Q (.ref p) H'):∀ p,H p=none->Q (.ref p) (upd H p (.tup xs)):=λp hp=>h p _ (s.gZ hp)
def GS (s:Sep O H)(hl:es.length<=10000)(h:∀ p H',Sep (pt p (.lst es)::O) H'->Q (.ref p) H'):CM es H Q:=by unfold CM;exact ⟨hl,al s h⟩
def G5 (s:Sep O H)(hl:es.length<=10000)(h:∀ p H',Sep (pt p (.tup es)::O) H'->Q (.ref p) H'):gZ es H Q:=by unfold gZ;exact ⟨hl,al s h⟩
def aD (e:H a=some (.lst xs))(hv:kG xs i=some v)(q:Q v H):qP K (.ref a) (.int i) H Q:=by unfold qP;exact .inl ⟨xs,i,v,rfl,.inl (aR.of e),hv,q⟩
def bH (e:H a=some (.tup xs))(hv:kG xs i=some v)(q:Q v H):qP K (.ref a) (.int i) H Q:=by unfold qP;exact .inl ⟨xs,i,v,rfl,.inr (aX.of e),hv,q⟩
def dS {j:Nat}(s:Sep O H)(r:a9 (pt a (.lst xs)) (pt a (.lst ys)) O Γ')(hj:zQ xs.length i=some j)(hx:xs.set j v=ys)(h:∀ H',Sep Γ' H'->R H'):iS (.ref a) (.int i) v H R:=by
 obtain ⟨Δ,h1,h2⟩:=r.bO;subst hx;unfold iS;exact .inl ⟨xs,i,j,rfl,s.get h1,hj,h _ (s.put r rfl)⟩
def Ih (e:H a=some (.lst xs))(h0:0<=i)(hv:xs[i.toNat]? =some v)(q:Q v H):zM K (.ref a) (.int i) H Q:=by unfold zM;exact ⟨xs,v,aR.of e,h0,hv,q⟩
def cO (e:H a=some (.ins (G.R.cad n) dx fs))(ho:G.T.oc.contains n=true)(hn:G.T.na.contains (n,f)=true)(hl:fs.lookup f=some v)(q:Q v H):sV G f (.ref a) H Q:=by unfold sV;exact ⟨a,n,fs,v,rfl,.inl ⟨ho,dx,e⟩,hn,hl,q⟩
def JV (e:H a=some (.exc (G.R.cad n) (some dx) fs fr))(ho:G.T.xc.contains n=true)(hn:G.T.na.contains (n,f)=true)(hl:fs.lookup f=some v)(q:Q v H):sV G f (.ref a) H Q:=by unfold sV;exact ⟨a,n,fs,v,rfl,.inr ⟨ho,dx,fr,e⟩,hn,hl,q⟩
def LM {fs':List (Str×V)}(s:Sep O H)(r:a9 (pt a (.ins (G.R.cad n) dx fs)) (pt a (.ins (G.R.cad n) dx fs')) O Γ')(ho:G.T.oc.contains n=true)(hn:G.T.na.contains (n,f)=true)(hl:fs.length<1000)(hf:cX f v fs=fs')(h:∀ H',Sep Γ' H'->R H'):BJ G f (.ref a) v H R:=by
 obtain ⟨Δ,h1,h2⟩:=r.bO;subst hf;unfold BJ;exact ⟨a,n,rfl,hn,.inl ⟨dx,fs,ho,s.get h1,hl,h _ (s.put r rfl)⟩⟩
def BG {d:Addr}{fs':List (Str×V)}(s:Sep O H)(r:a9 (pt a (.exc (G.R.cad n) (some d) fs fr)) (pt a (.exc (G.R.cad n) (some d) fs' fr)) O Γ')(ho:G.T.xc.contains n=true)(hn:G.T.na.contains (n,f)=true)(hl:fs.length<1000)(hf:cX f v fs=fs')(h:∀ H',Sep Γ' H'->R H'):BJ G f (.ref a) v H R:=by
 obtain ⟨Δ,h1,h2⟩:=r.bO;subst hf;unfold BJ;exact ⟨a,n,rfl,hn,.inr (.inl ⟨d,fs,fr,ho,s.get h1,hl,h _ (s.put r rfl)⟩)⟩
def uH (s:Sep (pt a (.exc (G.R.cad n) none [] fr)::O) H)(ho:G.T.xc.contains n=true)(hn:G.T.na.contains (n,f)=true)(h:∀ d H',Sep (pt a (.exc (G.R.cad n) (some d) [(f,v)] fr)::pt d (.own a)::O) H'->R H'):BJ G f (.ref a) v H R:=by
 unfold BJ;refine ⟨a,n,rfl,hn,.inr (.inr ⟨fr,ho,s.at,λd hd=>h d _ ?_⟩)⟩;exact ((s.new (o:=.own a) hd).pull (.t .e)).set rfl
def cw {n:String}{b:Bool}(ht:tyName v H=some t)(hb:G.T.subB.lookup (t,n)=some b)(q:Q (.bl b) H):mx G (.ty n) v H Q:=by unfold mx;exact .inl ⟨t,b,ht,hb,q⟩
def Jy {j:Nat}{b:Bool}(e:H a=some (.ins (G.R.cad j) dx fs))(ho:G.T.oc.contains j=true)(hb:G.T.sub.lookup (j,n)=some b)(q:Q (.bl b) H):mx G (.own n) (.ref a) H Q:=by unfold mx;exact .inr ⟨a,j,b,rfl,.inl ⟨ho,dx,fs,e⟩,hb,q⟩
def iQ (e:H a=some (.lst xs))(q:Q (.int xs.length) H):mj G .len [.ref a] H Q:=by unfold mj;exact ⟨_,xs.length,rfl,.inl ⟨xs,aR.of e,rfl⟩,q⟩
def vX (e:H a=some (.tup xs))(q:Q (.int xs.length) H):mj G .len [.ref a] H Q:=by unfold mj;exact ⟨_,xs.length,rfl,.inr ⟨xs,aX.of e,rfl⟩,q⟩
def Hv {j:Int}(hc:G.cm=true)(q:Q (.int (min i j)) H):mj G .min [.int i,.int j] H Q:=by
 unfold mj;refine ⟨hc,.inl ⟨i,j,rfl,?_⟩⟩;have e:(if j<i then j else i)=min i j:=by split<;>omega
 rw[e];exact q
def Gf {j:Int}(hc:G.cm=true)(q:Q (.int (max i j)) H):mj G .max [.int i,.int j] H Q:=by
 unfold mj;refine ⟨hc,i,j,rfl,?_⟩;have e:(if j>i then j else i)=max i j:=by split<;>omega
 rw[e];exact q
def cI (h0:0<=i)(h1:i<n):zQ n i=some i.toNat:=by
 unfold zQ;rw[if_pos h0,if_pos h1]
def vV (s:Sep O H)(e:H a=some (.lst xs))(h:∀ p H',Sep (pt p (.lst xs)::O) H'->Q (.ref p) H'):mj G .list [.ref a] H Q:=by unfold mj;exact ⟨_,xs,rfl,.inl (aR.of e),al s h⟩
def Hr (s:Sep O H)(e:H a=some (.lst xs))(h:∀ p H',Sep (tu p xs::O) H'->Q (.ref p) H'):mj G .tuple [.ref a] H Q:=by unfold mj;exact ⟨_,xs,rfl,.inl ⟨aR.of e,MQ s h⟩⟩
def vJ (s:Sep O H){b:Addr}(e1:H a=some (.lst xs))(e2:H b=some (.lst ys))(hl:xs.length+ys.length<=100000)(h:∀ p H',Sep (pt p (.lst (xs++ys))::O) H'->Q (.ref p) H'):Du K a b H Q:=by unfold Du;exact .inl ⟨xs,ys,e1,e2,hl,al s h⟩
def Jg (s:Sep O H)(e:H a=some (.lst xs))(h1: -1000<=i)(h2:i<=1000)(h3:xs.length<=1000)(h:∀ p H',Sep (pt p (.lst (sK i.toNat xs).flatten)::O) H'->Q (.ref p) H'):Cp K a i H Q:=by unfold Cp;exact .inl ⟨xs,e,h1,h2,h3,al s h⟩
def qL {y:V}(s:Sep O H)(r:a9 (pt a (.lst xs)) (pt a (.lst (xs++[y]))) O Γ')(hl:xs.length<=10000)(h:∀ H',Sep Γ' H'->Q .non H'):GA .append a xs [y] H Q:=by unfold GA;exact ⟨_,rfl,hl,h _ (s.put r rfl)⟩
def Mf {lo hi:Option Int}(s:Sep O H)(e:aR K H a xs)(h:∀ p H',Sep (pt p (.lst (gE xs lo hi))::O) H'->Q (.ref p) H'):Eo K (.ref a) lo hi H Q:=by unfold Eo;exact .inl ⟨xs,e,al s h⟩
def Iq {R:It->Hp->Prop}(e:H a=some (.lst xs))(h:R (FV K a) H):ub K a H R:=by unfold ub;exact .inl ⟨⟨xs,aR.of e⟩,h⟩
def Cu {R:It->Hp->Prop}(e:H a=some (.lst xs))(h:R (J8 a) H):D8 a H R:=by unfold D8;exact ⟨⟨xs,e⟩,h⟩
def Ht {lo hi:Option Int}(s:Sep O H)(e:H a=some (.lst xs))(h:∀ p H',Sep (pt p (.lst (gE xs lo hi))::O) H'->Q (.ref p) H'):Eo K (.ref a) lo hi H Q:=by unfold Eo;exact .inl ⟨xs,aR.of e,al s h⟩
end
variable {x:V}
section
variable {K:W.Frag}{H:Hp}{Q:VK}
def qA (f:aN x=true):dr x x=true:=by
 cases x<;>simp[aN] at f<;>simp[dr]
def Cv {y:V}(fx:aN x=true)(fy:aN y=true)(q:Q (.bl (dr x y)) H):ic K false x y H Q:=by unfold ic;exact ⟨0,_,.flat fx fy,by decide,.inl fx,q⟩
def vj {y:V}(fx:aN x=true)(fy:aN y=true)(q:Q (.bl (!dr x y)) H):ic K true x y H Q:=by unfold ic;exact ⟨0,_,.flat fx fy,by decide,.inl fx,q⟩
def um {b:Addr}(h:gF K H n (.ref a) (.ref b) c)(hn:n<=100)(ne:a≠b)(q:Q (.bl c) H):ic K false (.ref a) (.ref b) H Q:=by unfold ic;exact ⟨n,c,h,hn,.inr (.inl λz=>ne (V.ref.inj z)),q⟩
def AK {b:Addr}(h:gF K H n (.ref a) (.ref b) c)(hn:n<=100)(ne:a≠b)(q:Q (.bl (!c)) H):ic K true (.ref a) (.ref b) H Q:=by unfold ic;exact ⟨n,c,h,hn,.inr (.inl λz=>ne (V.ref.inj z)),q⟩
def fe (h:tyName x H=some t):gF K H (n+1) x x true:=by
 have key:aN x=true->gF K H (n+1) x x true:=λf=>by
  have:=gF.flat (K:=K) (H:=H) (n:=n+1) f f
  rwa [qA f] at this
 cases x<;>first|exact key rfl|exact .same _|(cases h)
def all_true (n:Nat):(List.range n).all (λ_=>true)=true:=by simp
def qU {b:Addr}(h1:H a=some (.lst xs))(h2:H b=some (.lst xs))(h:∀ x ∈ xs,∃ t,tyName x H=some t):gF K H (n+2) (.ref a) (.ref b) true:=by
 have:=gF.ll (K:=K) (n:=n) (e:=λ_=>true) (aR.of h1) (aR.of h2) rfl λj x y e1 e2=>by
  rw[e1] at e2;cases e2;obtain ⟨t,ht⟩:=h x (cr e1);exact fe ht
 rwa [all_true] at this
def ui {b:Addr}{ys:List V}(h1:H a=some (.tup xs))(h2:H b=some (.tup ys))(hl:xs.length=ys.length)(h:∀ (j:Nat) x y,xs[j]? =some x->ys[j]? =some y->gF K H (n+1) x y true):gF K H (n+2) (.ref a) (.ref b) true:=by
 have:=gF.tt (K:=K) (n:=n) (e:=λ_=>true) (aX.of h1) (aX.of h2) h;rw[all_true,hl] at this;simpa using this
end
variable {rest:St}{te:TE}
section
variable {D:Ends}{F:(St->Hp->Prop)->V->St->Hp->Prop}{U:St}{H:Hp}
def dM {lo:Int}(I:Nat->St->Hp->Prop)(h0:I 0 U H)(hs:∀ j U H,j<n->I j U H->F (I (j+1)) (.int (lo+j)) U H) (hd:∀ U H,I n U H->D.nx U H):mK (E3 lo n) D F U H:=by
 unfold mK;refine ⟨λi m U H=>m=n-i/\i<=n/\I i U H,⟨n,by simp,Nat.zero_le _,h0⟩,λi m U H ⟨e,hi,h⟩=>?_⟩
 by_cases hlt:i<n
 ·refine .inr ⟨hlt,I (i+1),λσ' H' h'=>⟨n-(i+1),by omega,rfl,hlt,h'⟩,λx H' y=>?_⟩;obtain ⟨rfl,rfl⟩:=y;exact hs i U H' hlt h
 ·have:i=n:=by omega
  subst this;exact .inl ⟨re _,hd U H h⟩
def c8 {K:W.Frag}(I:Nat->St->Hp->Prop)(h0:I 0 U H)(hl:∀ j U H,I j U H->aR K H a xs)
  (hs:∀ j x U H,xs[j]? =some x->I j U H->F (I (j+1)) x U H) (hd:∀ U H,I xs.length U H->D.nx U H):mK (FV K a) D F U H:=by
 unfold mK;refine ⟨λi m U H=>m=xs.length-i/\i<=xs.length/\I i U H,⟨xs.length,by simp,Nat.zero_le _,h0⟩,λi m U H ⟨e,hi',h⟩=>?_⟩
 by_cases hlt:i<xs.length
 ·refine .inr ⟨⟨xs,xs[i],hl i U H h,li hlt⟩,I (i+1),λσ' H' h'=>⟨xs.length-(i+1),by omega,rfl,hlt,h'⟩,λx H' y=>?_⟩;obtain ⟨rfl,hy⟩:=y;exact hs i x U H' (hy xs (hl i U H' h)) h
 ·have:i=xs.length:=by omega
  subst this;exact .inl ⟨⟨xs,hl _ U H h,re _⟩,hd U H h⟩
def kA (I:Nat->St->Hp->Prop)(h0:I 0 U H)(hl:∀ j U H,I j U H->H a=some (.lst xs)) (hs:∀ j x T U H,xs[j]? =some x->I j U H->H T=none->F (I (j+1)) (.ref T) U (upd H T (.tup [.int j,x])))
  (hd:∀ U H,I xs.length U H->D.nx U H):mK (J8 a) D F U H:=by
 unfold mK;refine ⟨λi m U H=>m=xs.length-i/\i<=xs.length/\I i U H,⟨xs.length,by simp,Nat.zero_le _,h0⟩,λi m U H ⟨e,hi',h⟩=>?_⟩
 by_cases hlt:i<xs.length
 ·refine .inr ⟨⟨xs,xs[i],hl i U H h,li hlt⟩,I (i+1),λσ' H' h'=>⟨xs.length-(i+1),by omega,rfl,hlt,h'⟩,λx H' y=>?_⟩;obtain ⟨T,z,hT,rfl,rfl,hy⟩:=y;exact hs i z T U H (hy xs (hl i U H h)) h hT
 ·have:i=xs.length:=by omega
  subst this;exact .inl ⟨⟨xs,hl _ U H h,re _⟩,hd U H h⟩
@[irreducible] noncomputable def oE (I:Addr->List V->Hp->Prop) (D:Addr) (ys:List V) (rest:St) (x:Option V):VK:=λv H3=>∃ zs,H3 D=some (.lst zs)/\zs.length<bn/\∃ ys2 x2,x::rest=x2::rest/\ys2.length=ys.length+1/\I D ys2 (upd H3 D (.lst (zs++[v])))
def oE.mk {I:Addr->List V->Hp->Prop}{D:Addr}{ys:List V}{x:Option V}{v:V}{H3:Hp}(h1:H3 D=some (.lst ys))(hl:ys.length<=999)(h2:I D (ys++[v]) (upd H3 D (.lst (ys++[v])))):oE I D ys rest x v H3:=
 by unfold oE;exact ⟨ys,h1,dh nofun,ys++[v],x,rfl,by simp,h2⟩
def ow (hn:n<=1000)(I:Addr->List V->Hp->Prop)(h0:∀ D,H D=none->I D [] (upd H D (.lst [])))
  (hs:∀ D ys H',ys.length<n->I D ys H'->te (some (.int (0+(ys.length:Nat)))::rest) H' (oE I D ys rest (some (.int (0+(ys.length:Nat))))))
  (hd:∀ D ys H',ys.length=n->I D ys H'->Q (.ref D) H'):yQ te (E3 0 n) (none::rest) H Q:=by
 unfold yQ;intro D hD;refine ⟨λi m σ' H'=>m=n-i/\i<=n/\∃ ys x0,σ'=x0::rest/\ys.length=i/\I D ys H',⟨n,by simp,Nat.zero_le _,[],none,rfl,rfl,h0 D hD⟩,λi m σ' H' ⟨e,hi,ys,x0,e1,e2,h⟩=>?_⟩;subst e1 e2
 by_cases hlt:ys.length<n
 ·refine .inr ⟨hlt,λσ2 H2=>∃ ys2 x2,σ2=x2::rest/\ys2.length=ys.length+1/\I D ys2 H2,λσ2 H2 ⟨ys2,x2,f1,f2,f3⟩=>⟨n-(ys.length+1),by omega,rfl,hlt,ys2,x2,f1,f2,f3⟩,λx H'' y=>?_⟩;obtain ⟨e1,e2⟩:=y;subst e1 e2;have z:=hs D ys H'' hlt h;unfold oE at z;exact z
 ·have:ys.length=n:=by omega
  exact .inl ⟨Nat.le_of_eq this.symm,hd D ys H' this h⟩
def l6 {K:W.Frag}(hn:xs.length<=1000)(I:Addr->List V->Hp->Prop)(hl:∀ D ys H,I D ys H->aR K H a xs) (h0:∀ D,H D=none->I D [] (upd H D (.lst [])))
  (hs:∀ D ys x H',xs[ys.length]? =some x->I D ys H'->te (some x::rest) H' (oE I D ys rest (some x)))
  (hd:∀ D ys H',ys.length=xs.length->I D ys H'->Q (.ref D) H'):yQ te (FV K a) (none::rest) H Q:=by
 unfold yQ;intro D hD;refine ⟨λi m σ' H'=>m=xs.length-i/\i<=xs.length/\∃ ys x0,σ'=x0::rest/\ys.length=i/\I D ys H',⟨xs.length,by simp,Nat.zero_le _,[],none,rfl,rfl,h0 D hD⟩,λi m σ' H' ⟨e,hi,ys,x0,e1,e2,h⟩=>?_⟩;subst e1 e2
 by_cases hlt:ys.length<xs.length
 ·refine .inr ⟨⟨xs,xs[ys.length],hl D ys H' h,li hlt⟩,λσ2 H2=>∃ ys2 x2,σ2=x2::rest/\ys2.length=ys.length+1/\I D ys2 H2,λσ2 H2 ⟨ys2,x2,f1,f2,f3⟩=>⟨xs.length-(ys.length+1),by omega,rfl,hlt,ys2,x2,f1,f2,f3⟩,λx H'' y=>?_⟩;obtain ⟨e1,hy⟩:=y;subst e1;have z:=hs D ys x H'' (hy xs (hl D ys H'' h)) h;unfold oE at z;exact z
 ·have:ys.length=xs.length:=by omega
  exact .inl ⟨⟨xs,hl D ys H' h,Nat.le_of_eq this.symm⟩,hd D ys H' this h⟩
def A0 {K:W.Frag}{G:Gx}{bs:List Bool}(hc:G.cm=true)(e:H a=some (.lst (bs.map V.bl)))(q:Q (.bl (bs.all id)) H):mj G .all [.ref a] H Q:=by unfold mj;exact ⟨hc,_,bs,rfl,aR.of e,q⟩
def gK (q:Q (.bl (decide (x=.non))) H):Bv false x .non H Q:=by unfold Bv;exact q
def bc (q:Q (.bl (!decide (x=.non))) H):Bv true x .non H Q:=by unfold Bv;exact q
def fR {K:W.Frag}(e:aX K H a xs)(fx:aN x=true)(fs:xs.all aN=true)(q:Q (.bl (CG x xs)) H):GH K false x (.ref a) H Q:=by unfold GH;exact .inl ⟨xs,.inr e,fx,fs,q⟩
def Lc {K:W.Frag}(e:aR K H a xs)(fx:aN x=true)(fs:xs.all aN=true)(q:Q (.bl (CG x xs)) H):GH K false x (.ref a) H Q:=by unfold GH;exact .inl ⟨xs,.inl e,fx,fs,q⟩
end
variable {kvs:List (Key×V)}
section
variable {K:W.Frag}{G:Gx}{O Γ':List aB}{H:Hp}{Q:VK}{a b:Addr}{xs ys:List V}{v:V}
def D5 {tp1 tp2:Bool}{R:It->Hp->Prop}(h1:Sq K tp1 H a xs)(h2:Sq K tp2 H b ys)(h:R (Ia K tp1 a tp2 b) H):BW K (.ref a) (.ref b) H R:=by unfold BW;exact ⟨tp1,a,tp2,b,rfl,rfl,⟨xs,h1⟩,⟨ys,h2⟩,h⟩
def pe {D:Ends}{F:(St->Hp->Prop)->V->St->Hp->Prop}{U:St}{tp1 tp2:Bool}(I:Nat->St->Hp->Prop)(hn:xs.length=ys.length)(h0:I 0 U H)(hl:∀ j U H,I j U H->Sq K tp1 H a xs/\Sq K tp2 H b ys)
  (hs:∀ j x y T U H,xs[j]? =some x->ys[j]? =some y->I j U H->H T=none->F (I (j+1)) (.ref T) U (upd H T (.tup [x,y]))) (hd:∀ U H,I xs.length U H->D.nx U H):mK (Ia K tp1 a tp2 b) D F U H:=by
 unfold mK;refine ⟨λi m U H=>m=xs.length-i/\i<=xs.length/\I i U H,⟨xs.length,by simp,Nat.zero_le _,h0⟩,λi m U H ⟨e,hi',h⟩=>?_⟩
 by_cases hlt:i<xs.length
 ·obtain ⟨g1,g2⟩:=hl i U H h;refine .inr ⟨⟨xs,ys,xs[i],ys[i]'(hn▸hlt),g1,g2,li hlt,li (hn▸hlt)⟩,I (i+1),λσ' H' h'=>⟨xs.length-(i+1),by omega,rfl,hlt,h'⟩,λx H' y=>?_⟩;obtain ⟨T,z,z',hT,rfl,rfl,hy,hy'⟩:=y;exact hs i z z' T U H (hy xs g1) (hy' ys g2) h hT
 ·have:i=xs.length:=by omega
  subst this;obtain ⟨g1,g2⟩:=hl _ U H h;exact .inl ⟨⟨xs,ys,g1,g2,.inl (re _)⟩,hd U H h⟩
def Im {tp1 tp2:Bool}{ks:List Key}(s:Sep O H)(h1:Sq K tp1 H a (ks.map kV))(h2:Sq K tp2 H b ys)(hn:ks.Nodup)(hl:ks.length=ys.length)(hz:ks.length<=1000)(h:∀ p H',Sep (pt p (.dK (ks.zip ys))::O) H'->Q (.ref p) H'):IV K (.ref a) (.ref b) H Q:=by unfold IV;exact ⟨tp1,a,tp2,b,ks,ys,rfl,rfl,h1,h2,hn,hl,hz,al s h⟩
def pd {k:Key}(e:H a=some (.dK kvs))(hv:je kvs k=some v)(q:Q v H):qP K (.ref a) (kV k) H Q:=by unfold qP;exact .inr ⟨v,.inl ⟨kvs,k,.inl e,rfl,hv.symm⟩,q⟩
def uV {kvs':List (Key×V)}{k:Key}(s:Sep O H)(r:a9 (pt a (.dK kvs)) (pt a (.dK kvs')) O Γ')(hl:kvs.length<=10000)(hx:putK kvs k v=kvs')(h:∀ H',Sep Γ' H'->R H'):iS (.ref a) (kV k) v H R:=by
 obtain ⟨Δ,h1,h2⟩:=r.bO;subst hx;unfold iS;exact .inr ⟨_,.inl ⟨kvs,k,s.get h1,rfl,Nat.lt_of_le_of_lt hl (by decide),rfl⟩,h _ (s.put r rfl)⟩
def uJ (s:Sep O H)(e:H a=some (.dK kvs))(h:∀ p H',Sep (pt p (.dK kvs)::O) H'->Q (.ref p) H'):mj G .dict [.ref a] H Q:=by unfold mj;exact ⟨_,kvs,rfl,e,al s h⟩
def Fd (hn:xs.length<=1000)(I:Addr->List V->Hp->Prop)(hl:∀ D ys H,I D ys H->aX K H a xs) (h0:∀ D,H D=none->I D [] (upd H D (.lst [])))
  (hs:∀ D ys x H',xs[ys.length]? =some x->I D ys H'->te (some x::rest) H' (oE I D ys rest (some x)))
  (hd:∀ D ys H',ys.length=xs.length->I D ys H'->Q (.ref D) H'):yQ te (J0 K a) (none::rest) H Q:=by
 unfold yQ;intro D hD;refine ⟨λi m σ' H'=>m=xs.length-i/\i<=xs.length/\∃ ys x0,σ'=x0::rest/\ys.length=i/\I D ys H',⟨xs.length,by simp,Nat.zero_le _,[],none,rfl,rfl,h0 D hD⟩,λi m σ' H' ⟨e,hi,ys,x0,e1,e2,h⟩=>?_⟩;subst e1 e2
 by_cases hlt:ys.length<xs.length
 ·refine .inr ⟨⟨xs,xs[ys.length],hl D ys H' h,li hlt⟩,λσ2 H2=>∃ ys2 x2,σ2=x2::rest/\ys2.length=ys.length+1/\I D ys2 H2,λσ2 H2 ⟨ys2,x2,f1,f2,f3⟩=>⟨xs.length-(ys.length+1),by omega,rfl,hlt,ys2,x2,f1,f2,f3⟩,λx H'' y=>?_⟩;obtain ⟨e1,hy⟩:=y;subst e1;have z:=hs D ys x H'' (hy xs (hl D ys H'' h)) h;unfold oE at z;exact z
 ·have:ys.length=xs.length:=by omega
  exact .inl ⟨⟨xs,hl D ys H' h,Nat.le_of_eq this.symm⟩,hd D ys H' this h⟩
def IZ {R:It->Hp->Prop}(e:aX K H a xs)(h:R (J0 K a) H):ub K a H R:=by unfold ub;exact .inr ⟨⟨xs,e⟩,h⟩
def LR {C:Addr}(s:Sep O H)(h:∀ x dx H',Sep (pt x (.ins C dx [])::pt dx (.own x)::O) H'->Q (.ref x) H'):zx C H Q:=by unfold zx;exact λx dx h1 h2 h3=>h x dx _ (hR s h1 h2 h3)
end
end L3
namespace L3
open PySem PySem.Spec PySem.W L2
variable {ps:List Str}
def Ah:∀ {us:List Value}{n:Str},us.length=ps.length->n ∈ ps->((ps.zip us).lookup n).isNone=false:=by
 induction ps with
 |nil=>intro us n _ h;cases h
 |cons p ps ih=>
  intro us n hl h;cases us with
  |nil=>cases hl
  |cons u us=>
   rw[zip_cons_cons,lookup_cons];cases e:n ==p with
   |true=>rfl
   |false=>
    rcases nb.mp h with rfl|h
    ·rw[beq_self_eq_true] at e;cases e
    ·exact ih (Nat.succ.inj hl) h
def sQ:∀ {ps:List Str}{us:List Value},ps.Nodup->us.length=ps.length->∀ {L:List (Str×Value)},(∀ n ∈ ps,L.lookup n=(ps.zip us).lookup n)->ps.filterMap (λn=>(L.lookup n).map (n,·))=ps.zip us
 | [],us,_,_,L,_=>rfl
 |p::ps,[],_,hl,L,_=>by cases hl
 |p::ps,u::us,nd,hl,L,hL=>by
  have h0:L.lookup p=some u:=by rw[hL p mo,zip_cons_cons,lookup_cons,beq_self_eq_true]
  rw[filterMap_cons,h0,zip_cons_cons];show (p,u)::_=_;rw[sQ (nodup_cons.mp nd).2 (Nat.succ.inj hl) (L:=L)];intro n hn;rw[hL n (dL _ hn),zip_cons_cons,lookup_cons];have:(n ==p)=false:=by
   cases e:n ==p with
   |false=>rfl
   |true=>
    have:=beq_iff_eq.mp e;subst this;exact absurd hn (nodup_cons.mp nd).1
  rw[this]
variable {fd:FuncData}
def qt (nd:ps.Nodup)(h1:fd.params.posonlyargs=[])(h2:fd.params.args.map (·.arg)=ps)(h3:fd.params.kwonlyargs=[])(h4:fd.params.vararg=none)(h5:fd.params.kwarg=none)(h6:fd.defaults=.none)(us:List Value)(hl:us.length=ps.length):
  bindArgs fd ⟨us,[]⟩=pure (ps.zip us):=by
 obtain ⟨name,qual,⟨po,as,va,ko,kd,ka,df⟩,body,scope,glo,cn,dV,kV,doc,pm,an,cdv,ct,bu⟩:=fd;dsimp only at h1 h2 h3 h4 h5 h6;subst h1 h2 h3 h4 h5 h6;generalize hps:as.map (·.arg)=ps at nd hl⊢;have e1:seqItems? (Value.none)=(pure none:Sem (Option (Array Value))):=rfl;have e2:∀ f:Str->Bool,(∀ n ∈ ps,f n=false)->ps.filter f=[]:=λf h=>List.filter_eq_nil_iff.mpr λa ha=>by rw[h a ha];decide
 have e3:¬ (us.length>ps.length):=by omega
 have e4:=e2 (λn=>((ps.zip us).lookup n).isNone) λn hn=>Ah hl hn
 have e5:=sQ nd hl (L:=ps.zip us) λ_ _=>rfl
 unfold bindArgs;dsimp only[List.map_nil,nil_append,append_nil];rw[hps];simp[e1,e3,e4,e5]
abbrev gD (S:List (Str×Value))(x:Str×Value):List (Str×Value):=if (S.lookup x.1).isNone=true then S++[x] else S
def EO:∀ {L:List (Str×Value)}{S:List (Str×Value)},(∀ x ∈ L,(S.lookup x.1).isNone=false)->L.foldl gD S=S
 | [],_,_=>rfl
 |x::L,S,h=>by
  have h0:gD S x=S:=by
   unfold gD;rw[if_neg (by rw[h x mo];decide)]
  rw[foldl_cons,h0];exact EO λy hy=>h y (dL _ hy)
def Ew:∀ {L:List (Str×Value)}{S:List (Str×Value)},(L.map (·.1)).Nodup->(∀ x ∈ L,S.lookup x.1=none)->L.foldl gD S=S++L
 | [],S,_,_=>by rw[append_nil];rfl
 |x::L,S,nd,h=>by
  have h0:gD S x=S++[x]:=by
   unfold gD;rw[if_pos (by rw[h x mo];rfl)]
  rw[map_cons] at nd;rw[foldl_cons,h0,Ew (nodup_cons.mp nd).2]
  ·rw[le];rfl
  ·intro y hy;have hne:(y.1 ==x.1)=false:=by
    cases e:y.1 ==x.1 with
    |false=>rfl
    |true=>
     have e:=beq_iff_eq.mp e;exact absurd (List.mem_map_of_mem (f:=(·.1)) hy) (e▸(nodup_cons.mp nd).1)
   obtain ⟨a,b⟩:=x;rw[List.lookup_append,h y (dL _ hy),lookup_cons,hne]
   rfl
def Ef {n:Str}:∀ {L:List (Str×Value)},(∀ x ∈ L,x.1≠n)->L.lookup n=none
 | [],_=>rfl
 |(a,b)::L,h=>by
  have:(n ==a)=false:=by
   cases e:n ==a with
   |false=>rfl
   |true=>exact absurd (beq_iff_eq.mp e).symm (h (a,b) mo)
  rw[lookup_cons,this];exact Ef λx hx=>h x (dL _ hx)
variable {A:List Str}{B:List Value}
def pf {x:Str×Value}(h:x ∈ A.zip B):x.1 ∈ A:=by
 obtain ⟨a,b⟩:=x;exact (of_mem_zip h).1
def zip_map (h:A.length<=B.length):(A.zip B).map (·.1)=A:=List.map_fst_zip h
def nZ {B:List Str}{us:List Value}(h:A.length=us.length):(A++B).zip us=A.zip us:=by
 have:=zip_append (l₁:=A) (l₂:=us) (r₁:=B) (r₂:=[]) h;rw[append_nil,List.zip_nil_right,append_nil] at this;exact this
def CI {B:List Str}{us D1 D2:List Value}(nd:(A++B).Nodup)(h1:A.length=us.length)(h2:B.length=D2.length)(h3:D1.length<=A.length):
  (((A++B).drop (A.length-D1.length)).zip (D1++D2)).foldl gD ((A++B).zip us)=(A++B).zip (us++D2):=by
 have a:=EO (L:=(A.drop (A.length-D1.length)).zip D1) (S:=(A++B).zip us) λx hx=>by
  rw[nZ h1];exact Ah h1.symm (List.mem_of_mem_drop (pf hx))
 have b:=Ew (L:=B.zip D2) (S:=(A++B).zip us) (by rw[zip_map nofun];exact (List.nodup_append.mp nd).2.1) λx hx=>by
  refine Ef λy hy e=>?_
  rw[nZ h1] at hy;exact (List.nodup_append.mp nd).2.2 y.1 (pf hy) x.1 (pf hx) e
 rw[List.drop_append_of_le_length nofun,zip_append (by rw[jp];omega),List.foldl_append,a,b,nZ h1,zip_append h1]
def yC {us ds:List Value}(nd:ps.Nodup)(h1:us.length<=ps.length)(h2:ds.length<=ps.length)(h3:ps.length<=us.length+ds.length):
  ((ps.drop (ps.length-ds.length)).zip ds).foldl gD (ps.zip us)=ps.zip (us++ds.drop (us.length+ds.length-ps.length)):=by
 have nd2:(ps.take us.length++ps.drop us.length).Nodup:=by rw[take_append_drop];exact nd
 have:=CI (A:=ps.take us.length) (B:=ps.drop us.length) (us:=us) (D1:=ds.take (us.length+ds.length-ps.length)) (D2:=ds.drop (us.length+ds.length-ps.length)) nd2 (by rw[db];omega) (by rw[jp,jp];omega) (by rw[db,db];omega);rw[take_append_drop,take_append_drop,db,db] at this;rw[show min us.length ps.length-min (us.length+ds.length-ps.length) ds.length=ps.length-ds.length by omega] at this;exact this
def rM:∀ {L:List (Str×Value)}{S:List (Str×Value)},(forIn L S λx r=>(match x with|(name,d)=>if (r.lookup name).isNone=true then pure (ForInStep.yield (r++[(name,d)])) else pure (ForInStep.yield r):Sem (ForInStep (List (Str×Value)))))=pure (L.foldl gD S)
 | [],S=>by simp
 |(a,b)::L,S=>by
  rw[forIn_cons,foldl_cons,<-rM];unfold gD
  by_cases e:(S.lookup a).isNone=true
  ·simp only[e,if_true,pure_bind]
  ·simp only[e,if_false,pure_bind,Bool.false_eq_true]
def AH {T:Addr}{items:Array Value}(nd:ps.Nodup)(h1:fd.params.posonlyargs=[])(h2:fd.params.args.map (·.arg)=ps)(h3:fd.params.kwonlyargs=[])(h4:fd.params.vararg=none)(h5:fd.params.kwarg=none)(h6:fd.defaults=.ref T)(us:List Value)(l1:us.length<=ps.length)(l2:items.toList.length<=ps.length)(l3:ps.length<=us.length+items.toList.length):
  ∃ k:Option (Array Value)->Sem (List (Str×Value)),bindArgs fd ⟨us,[]⟩=seqItems? fd.defaults >>= k/\k (some items)=pure (ps.zip (us++items.toList.drop (us.length+items.toList.length-ps.length))):=by
 obtain ⟨name,qual,⟨po,as,va,ko,kd,ka,df⟩,body,scope,glo,cn,dV,kV,doc,pm,an,cdv,ct,bu⟩:=fd;dsimp only at h1 h2 h3 h4 h5 h6;subst h1 h2 h3 h4 h5 h6;generalize hps:as.map (·.arg)=ps at nd l1 l2 l3⊢;have e2:∀ f:Str->Bool,(∀ n ∈ ps.take (ps.length-items.toList.length),f n=false)->(ps.take (ps.length-items.toList.length)).filter f=[]:=λf h=>List.filter_eq_nil_iff.mpr λa ha=>by rw[h a ha];decide
 have e3:¬ (us.length>ps.length):=by omega
 have ez:ps.zip us=(ps.take us.length).zip us:=by
  have:=nZ (A:=ps.take us.length) (B:=ps.drop us.length) (us:=us) (by rw[db];omega);rw[take_append_drop] at this;exact this
 have e4:=e2 (λn=>((ps.zip us).lookup n).isNone) λn hn=>by
  rw[ez];refine Ah (by rw[db];omega) ?_;have:ps.take (ps.length-items.toList.length)=(ps.take us.length).take (ps.length-items.toList.length):=by rw[List.take_take,Nat.min_eq_left nofun]
  rw[this] at hn;exact List.mem_of_mem_take hn
 have e6:=yC (us:=us) (ds:=items.toList) nd l1 l2 l3;have e5:=sQ (us:=us++items.toList.drop (us.length+items.toList.length-ps.length)) nd (by rw[ci,jp];omega) λ_ _=>rfl
 have e7:items.toList.length-ps.length=0:=by omega
 unfold bindArgs;dsimp only[List.map_nil,nil_append,append_nil];rw[hps];refine ⟨_,rfl,?_⟩;simp only[Option.getD_some,List.map_nil,nil_append,e7,drop_zero,e4,e3,List.isEmpty_nil,Bool.not_true,decide_false,Bool.false_and,Bool.false_eq_true,if_false,forIn_nil,append_nil];rw[rM,e6,pure_bind,pure_bind];simp only[e5,List.isEmpty_nil,Bool.not_true,Bool.false_eq_true,if_false]
abbrev EZ (x:Option (Option Value))(a:Addr):Bool:=match x with
 |some (some (.ref b))=>b ==a
 |_=>false
variable {x:Option (Option Value)}
def gy {a:Addr}(h:EZ x a=true):x=some (some (.ref a)):=by
 unfold EZ at h
 split at h
 ·rw[beq_iff_eq.mp h]
 ·cases h
abbrev sD (x:Option (Option Value))(a:String):Bool:=match x with
 |some (some (.builtin b))=>b ==a
 |_=>false
variable {a:String}
def cE (h:sD x a=true):x=some (some (.builtin a)):=by
 unfold sD at h
 split at h
 ·rw[beq_iff_eq.mp h]
 ·cases h
abbrev Le (x:Option Value)(a:String):Bool:=match x with
 |some (.type b)=>b ==a
 |_=>false
def Fv {x:Option Value}(h:Le x a=true):x=some (.type a):=by
 unfold Le at h
 split at h
 ·rw[beq_iff_eq.mp h]
 ·cases h
abbrev AD (x:Option (Option Value)):Bool:=match x with
 |some none=>true
 |_=>false
def oH (h:AD x=true):x=some none:=by
 unfold AD at h
 split at h
 ·rfl
 ·cases h
abbrev DC (x:Option Bool)(b:Bool):Bool:=match x with
 |some c=>c ==b
 |none=>false
def e9 {x:Option Bool}{b:Bool}(h:DC x b=true):x=some b:=by
 unfold DC at h
 split at h
 ·rw[beq_iff_eq.mp h]
 ·cases h
abbrev LN (v:V)(x:Option (Option Value)):Bool:=match v,x with
 | .int i,some (some (.int j _))=>i ==j
 | .str s,some (some (.str s' _))=>s ==s'
 | .ref a,y=>EZ y a
 |_,_=>false
def G7 {v:V}(h:LN v x=true):∃ u,x=some (some u)/\RelV v u:=by
 unfold LN at h
 split at h
 ·rw[<-beq_iff_eq.mp h];exact ⟨_,rfl,_,rfl⟩
 ·rw[<-beq_iff_eq.mp h];exact ⟨_,rfl,_,rfl⟩
 ·rw[gy h];exact ⟨_,rfl,rfl⟩
 ·cases h
section
variable (K:Frag) (C:Addr)
abbrev CL:Bool:=plainGet K C Str.empty&&(hasDictIn K C&&(plainOver K C&&sD (findIn K (.ref C) "__setattr__") "object.__setattr__"))
def uW {K:Frag}{C:Addr}(h:CL K C=true):DQ K C:=by
 unfold CL at h;simp only[nl] at h;exact ⟨h.1,h.2.1,h.2.2.1,cE h.2.2.2⟩
abbrev Cm:Bool:=sD (findIn K (.ref C) "__class__") "object.__class__"&&(sD (specialIn K (.builtin "object.__class__") "__get__") "getset_descriptor.__get__"&&DC (takesIn K (.builtin "object.__class__")) true)
abbrev qW:Bool:=Le (typeIn K (.ref C)) "type"&&((clsIn K C).any (λcd=>dN cd.mro)&&(hasDictIn K C&&(sD (findIn K (.ref C) "__getattribute__") "BaseException.__getattribute__"&&(AD (findIn K (.ref C) "__getattr__")&&sD (findIn K (.ref C) "__setattr__") "object.__setattr__"))))
def lP {K:Frag}{C:Addr}(h:qW K C=true):cW K C:=by
 unfold qW at h;simp only[nl] at h;exact ⟨Fv h.1,h.2.1,h.2.2.1,cE h.2.2.2.1,oH h.2.2.2.2.1,cE h.2.2.2.2.2⟩
end
abbrev all2 {α:Type}(l:List α)(p:α->Bool):Bool:=match l with
 | []=>true
 |a::r=>p a&&all2 r p
def aE {α:Type}{p:α->Bool}:∀ {l:List α},all2 l p=true->∀ a ∈ l,p a=true
 | [],_,_,h=>by cases h
 |a::r,h,b,hb=>by
  unfold all2 at h;rw[nl] at h;rcases nb.mp hb with rfl|hb
  ·exact h.1
  ·exact aE h.2 b hb
abbrev G2 (K:Frag)(fs cs:List Addr)(gs:List (Str×V)):Rt:=⟨K,λi=>fs.getD i 0,λi=>cs.getD i 0,λx=>gs.lookup x⟩
section
variable (K:Frag) (T:Tab) (fs cs:List Addr) (gs:List (Str×V))
abbrev FQ:Bool:=
 (all2 T.gfn (λp=>EZ (nsIn K mainGlobals p.1) (fs.getD p.2 0)&&(keepIn K (.ref (fs.getD p.2 0))&&(T.fns[p.2]?).isSome))&&
 (all2 T.gcl (λp=>EZ (nsIn K mainGlobals p.1) (cs.getD p.2 0))&&
 (all2 T.gbl (λx=>AD (nsIn K mainGlobals x)&& !(x ==("__name__":Str)))&&
 (all2 T.gbi (λx=>match nsIn K mainGlobals x with
  |some (some (.ref B))=>sD (specialIn K (.ref B) "__getattribute__") "type.__getattribute__"&&(readsIn K B (.type "type")&&(match findCls K (.ref B) (.type "type") "__init__" with|some (.val (.builtin n))=>n =="ValueError.__init__"|_=>false))
  |_=>false)&&
 (all2 gs (λp=>LN p.2 (nsIn K mainGlobals p.1))&&
 (all2 T.na (λp=>AD (findIn K (.ref (cs.getD p.1 0)) p.2))&&
 (all2 T.me (λp=>CL K (cs.getD p.1.1 0)&&(EZ (findIn K (.ref (cs.getD p.1.1 0)) p.1.2) (fs.getD p.2 0)&&(isFn K (.ref (fs.getD p.2 0))&&(keepIn K (.ref (fs.getD p.2 0))&&(T.fns[p.2]?).isSome)))))))))))&&
 (all2 T.ini0 (λc=>ck K (cs.getD c 0)&&(sD (findIn K (.ref (cs.getD c 0)) "__init__") "ValueError.__init__"&&(keepIn K (.ref (cs.getD c 0))&&qW K (cs.getD c 0))))&&
 (all2 T.inip (λc=>makesIn K (cs.getD c 0)&&(sD (findIn K (.ref (cs.getD c 0)) "__init__") "object.__init__"&&keepIn K (.ref (cs.getD c 0))))&&
 (all2 T.ini (λp=>(T.fns[p.2]?).isSome&&((if T.xc.contains p.1=true then ck K (cs.getD p.1 0) else makesIn K (cs.getD p.1 0))&&(EZ (findIn K (.ref (cs.getD p.1 0)) "__init__") (fs.getD p.2 0)&&(isFn K (.ref (fs.getD p.2 0))&&keepIn K (.ref (cs.getD p.1 0))))))&&
 (all2 T.oc (λc=>CL K (cs.getD c 0)&&(Cm K (cs.getD c 0)&&DC (mroIn K (cs.getD c 0) (.type "object")) true))&&
 (all2 T.xc (λc=>qW K (cs.getD c 0)&&Cm K (cs.getD c 0))&&
 (all2 T.sub (λp=>DC (kitOne K (.ref (cs.getD p.1.1 0)) (.ref (cs.getD p.1.2 0))) p.2&&(!T.xc.contains p.1.1||(DC (mroIn K (cs.getD p.1.1 0) (.ref (cs.getD p.1.2 0))) p.2&&qW K (cs.getD p.1.2 0))))&&
 (all2 T.subT (λp=>DC (kitOne K (.ref (cs.getD p.1.1 0)) (.type p.1.2)) p.2)&&
 (all2 T.subB (λp=>DC (kitOne K (.type p.1.1) (.type p.1.2)) p.2)&&
 (all2 T.subO (λp=>DC (kitOne K (.type p.1.1) (.ref (cs.getD p.1.2 0))) p.2)&&
  all2 T.cin (λp=>sD (specialIn K (.ref (cs.getD p.1 0)) "__getattribute__") "type.__getattribute__"&&(readsIn K (cs.getD p.1 0) (.type "type")&&((match findCls K (.ref (cs.getD p.1 0)) (.type "type") "__init__" with|some (.val (.ref f))=>f ==fs.getD p.2 0|_=>false)&&(keepIn K (.ref (fs.getD p.2 0))&&(T.fns[p.2]?).isSome)))))))))))))
end
def kx {α:Type}{x:Option α}(h:x.isSome=true):∃ d,x=some d:=Option.isSome_iff_exists.mp h
variable {K:Frag}{T:Tab}{fs:List Addr}{gs:List (Str×V)}{mg:NF}
def Dw {cs:List Addr}{h:Heap}(X:K.In h)(G:h.Ns mainGlobals mg)(z:FQ K T fs cs gs=true):DM K mg T (G2 K fs cs gs):=by
 unfold FQ at z;simp only[nl] at z;obtain ⟨⟨z1,z2,z3,z4,z5,z6,z7⟩,z8,z9,z10,z11,z12,z13,z14,z15,z16,z17⟩:=z;exact {
  gfn:=kM λp hp=>by
   have:=aE z1 p hp;simp only[nl] at this;exact ⟨mg_of X G (gy this.1),this.2.1,kx this.2.2⟩
  gcl:=kM λp hp=>mg_of X G (gy (aE z2 p hp))
  gbl:=iX λx hx=>by
   have:=aE z3 x hx;simp only[nl] at this;exact ⟨mg_none_of X G (oH this.1),by simpa using this.2⟩
  gbi:=iX λx hx=>by
   have:=aE z4 x hx
   split at this
   ·rename_i B e;simp only[nl] at this;refine ⟨B,mg_of X G e,cE this.1,this.2.1,?_⟩;have t:=this.2.2
    split at t
    ·rename_i n e2;rw[e2,beq_iff_eq.mp t]
    ·cases t
   ·cases this
  gl:=kM λp hp=>by
   obtain ⟨u,e,r⟩:=G7 (aE z5 p hp);exact ⟨u,mg_of X G e,r⟩
  na:=Dg λp hp=>oH (aE z6 p hp)
  me:=gN λp hp=>by
   have:=aE z7 p hp;simp only[nl] at this;exact ⟨uW this.1,⟨gy this.2.1,this.2.2.1,this.2.2.2.1⟩,kx this.2.2.2.2⟩
  ini0:=iX λc hc=>by
   have:=aE z8 c hc;simp only[nl] at this;exact ⟨this.1,cE this.2.1,this.2.2.1,lP this.2.2.2⟩
  inip:=iX λc hc=>by
   have:=aE z9 c hc;simp only[nl] at this;exact ⟨this.1,cE this.2.1,this.2.2⟩
  ini:=kM λp hp=>by
   have:=aE z10 p hp;simp only[nl] at this;refine ⟨kx this.1,?_⟩;have t:=this.2
   by_cases e:T.xc.contains p.1=true
   ·rw[if_pos e] at t⊢;exact ⟨t.1,gy t.2.1,t.2.2.1,t.2.2.2⟩
   ·rw[if_neg e] at t⊢;exact ⟨t.1,gy t.2.1,t.2.2.1,t.2.2.2⟩
  oc:=iX λc hc=>by
   have:=aE z11 c hc;simp only[Cm,nl] at this;exact ⟨uW this.1,cE this.2.1.1,cE this.2.1.2.1,e9 this.2.1.2.2,e9 this.2.2⟩
  xc:=iX λc hc=>by
   have:=aE z12 c hc;simp only[Cm,nl] at this;exact ⟨lP this.1,cE this.2.1,cE this.2.2.1,e9 this.2.2.2⟩
  sub:=gN λp hp=>by
   have:=aE z13 p hp;simp only[nl] at this;refine ⟨e9 this.1,λe=>?_⟩;have t:=this.2;rw[e,Bool.not_true,Bool.false_or,nl] at t;exact ⟨e9 t.1,lP t.2⟩
  subT:=gN λp hp=>e9 (aE z14 p hp)
  subB:=gN λp hp=>e9 (aE z15 p hp)
  subO:=gN λp hp=>e9 (aE z16 p hp)
  cin:=kM λp hp=>by
   have:=aE z17 p hp;simp only[nl] at this;refine ⟨⟨cE this.1,this.2.1,?_,this.2.2.2.1⟩,kx this.2.2.2.2⟩;have t:=this.2.2.1
   split at t
   ·rename_i f e2;rw[beq_iff_eq.mp t] at e2;exact e2
   ·cases t }
abbrev KO:List Str->Bool
 | []=>true
 |a::r=>!r.contains a&&KO r
def zJ:∀ {l:List Str},KO l=true->l.Nodup
 | [],_=>List.nodup_nil
 |a::r,h=>by
  unfold KO at h;rw[nl] at h;exact nodup_cons.mpr ⟨by simpa using h.1,zJ h.2⟩
abbrev Mc (N P:List Str)(sc:Scope):Bool:=decide (sc.kind=.function)&&(!sc.isCoroutine&&(!sc.isGenerator&&(KO N&&(N.take P.length ==P&&(all2 P (λx=>match sc.names.lookup x with|some .local=>true|some .cell=>true|_=>false)&&all2 sc.names (λy=>match y.2 with| .free=>false|_=>true))))))
def sN {N P:List Str}{sc:Scope}(h:Mc N P sc=true):kh N P sc:=by
 unfold Mc at h;simp only[nl,decide_eq_true_eq] at h;refine ⟨h.1,by simpa using h.2.1,by simpa using h.2.2.1,zJ h.2.2.2.1,beq_iff_eq.mp h.2.2.2.2.1,λx hx=>?_,λy hy e=>?_⟩
 ·have:=aE h.2.2.2.2.2.1 x hx
  split at this
  ·rename_i e;exact .inl e
  ·rename_i e;exact .inr e
  ·cases this
 ·have:=aE h.2.2.2.2.2.2 y hy;rw[e] at this;cases this
abbrev K2:V->Value->Bool
 | .non,.none=>true
 | .bl b,.bool c=>b ==c
 | .int i,.int j _=>i ==j
 | .str s,.str s' _=>s ==s'
 |_,_=>false
def Hj {v:V}{u:Value}(h:K2 v u=true):RelV v u:=by
 unfold K2 at h
 split at h
 ·rfl
 ·rw[beq_iff_eq.mp h];rfl
 ·rw[beq_iff_eq.mp h];exact ⟨_,rfl⟩
 ·rw[beq_iff_eq.mp h];exact ⟨_,rfl⟩
 ·cases h
abbrev AX:List V->List Value->Bool
 | [],[]=>true
 |v::vs,u::us=>K2 v u&&AX vs us
 |_,_=>false
def pQ:∀ {vs:List V}{us:List Value},AX vs us=true->Vals vs us
 | [],[],_=>.nil
 |v::vs,u::us,h=>by
  unfold AX at h;rw[nl] at h;exact .cons (Hj h.1) (pQ h.2)
 | [],_::_,h=>by cases h
 |_::_,[],h=>by cases h
abbrev KU (K:Frag)(fd:FuncData)(d:au):Bool:=match fd.defaults with
 | .none=>d.dfl.isEmpty
 | .ref T=>!d.dfl.isEmpty&&(match K.lookup T with
  |some o=>(match o.data with| .seq items _=>AX d.dfl items.toList&&decide (items.toList.length<=d.ps.length)|_=>false)
  |none=>false)
 |_=>false
abbrev ED (K:Frag)(T:Tab)(f:Addr)(d:au):Bool:=match K.lookup f with
 |some ⟨_,_,.func fd,_⟩=>(match fd.body with
  | .stmts body=>decide (fd.globals=mainGlobals)&&(fd.closure.isEmpty&&(decide (fd.builtins=builtinsNs)&&(codeIn K fd.code fd.qualname&&(Mc d.N d.ps fd.scope&&(mB ⟨T,fd.scope,d.N⟩ d.body body&&
   (fd.params.posonlyargs.isEmpty&&(fd.params.args.map (·.arg) ==d.ps&&(fd.params.kwonlyargs.isEmpty&&(fd.params.vararg.isNone&&(fd.params.kwarg.isNone&&KU K fd d))))))))))
  |_=>false)
 |_=>false
variable {d:au}
def Ff {f:Addr}(h:ED K T f d=true):wb K T f d:=by
 unfold ED at h
 split at h
 ·rename_i oc od fd sl e;obtain ⟨name,qual,params,body,scope,glo,cn,dV,kV,doc,pm,an,cdv,ct,bu⟩:=fd;dsimp only at h
  split at h
  ·rename_i body;simp only[nl,decide_eq_true_eq,isEmpty_iff,Option.isNone_iff_eq_none] at h;obtain ⟨h1,h2,h3,h4,h5,h6,h7,h8,h9,h10,h11,h12⟩:=h;subst h1 h2 h3;have S:=sN h5;have nd:d.ps.Nodup:=by
    rw[<-S.pre];exact S.nd.sublist (take_sublist _ _)
   refine ⟨⟨name,qual,params,body,scope,dV,kV,doc,pm,cdv,ct,oc,od,an,sl,e,h4,S,h6,?_⟩⟩;unfold KU at h12;dsimp only at h12
   split at h12
   ·rw[isEmpty_iff.mp h12];exact HE (.all λus hl=>qt nd h7 (beq_iff_eq.mp h8) h9 h10 h11 rfl us hl)
   ·rename_i T0;rw[nl] at h12;have h12:=h12.2
    split at h12
    ·rename_i o ho
     split at h12
     ·rename_i items c hs;rw[nl,decide_eq_true_eq] at h12;intro j;refine ⟨items.toList.drop j,?_,nz j (pQ h12.1)⟩;refine CA (n:=d.ps.length-(items.toList.drop j).length) rfl ho hs (by rw[jp];omega) λus hl=>?_
      rw[jp] at hl;obtain ⟨k,k1,k2⟩:=AH (fd:=fnOf name qual params body scope (.ref T0) kV doc pm an cdv ct) (items:=items) nd h7 (beq_iff_eq.mp h8) h9 h10 h11 rfl us nofun h12.2 nofun;refine ⟨k,k1,?_⟩;rw[k2]
      by_cases e:j<=items.toList.length
      ·rw[show us.length+items.toList.length-d.ps.length=j by omega]
      ·rw[show us.length+items.toList.length-d.ps.length=items.toList.length by omega,List.drop_length,List.drop_eq_nil_of_le (by omega:items.toList.length<=j)]
     ·cases h12
    ·cases h12
   ·cases h12
  ·cases h
 ·cases h
abbrev pj (K:Frag)(T:Tab)(fs:List Addr):Nat->List au->Bool
 |_,[]=>true
 |n,d::r=>ED K T (fs.getD n 0) d&&pj K T fs (n+1) r
def vH {K:Frag}{T:Tab}{fs:List Addr}:∀ {l:List au}{n:Nat},pj K T fs n l=true->vR (λf d=>wb K T (fs.getD f 0) d) n l
 | [],_,_=>True.intro
 |d::r,n,h=>by
  unfold pj at h;rw[nl] at h;exact ⟨Ff h.1,vH h.2⟩
def B6 (h:pj K T fs 0 T.fns=true):∀ f d,T.fns[f]? =some d->wb K T (fs.getD f 0) d:=tG (P:=λf d=>wb K T (fs.getD f 0) d) (vH h)
def vN {K:Frag}{T:Tab}{fs:List Addr}:∀ {l:List au}{n f:Nat}{d:au},pj K T fs n l=true->l[f]? =some d->ED K T (fs.getD (n+f) 0) d=true
 | [],_,_,_,_,e=>by simp at e
 |a::r,n,0,d,h,e=>by
  unfold pj at h;rw[nl] at h;have:a=d:=by simpa using e
  subst this;exact h.1
 |a::r,n,f+1,d,h,e=>by
  unfold pj at h;rw[nl] at h;have:=vN h.2 (f:=f) (d:=d) (by simpa using e)
  rwa [Nat.add_assoc,Nat.add_comm 1 f] at this
def Cy {fl:Nat}(z:pj K T fs 0 T.fns=true)(hd:T.fns[fl]? =some d)(hp:d.ps=[("_law_script":Str)]) (hf:d.dfl=[]):
  ∃ oc od fd sl,K.lookup (fs.getD fl 0)=some ⟨oc,od,.func fd,sl⟩/\∀ (s:Shared) (v:Value),BindsTo s fd ⟨[v],[]⟩ [("_law_script",v)]:=by
 have h:=vN z hd;rw[Nat.zero_add] at h;unfold ED at h
 split at h
 ·rename_i oc od fd sl e;refine ⟨oc,od,fd,sl,e,λs v=>?_⟩
  split at h
  ·rename_i body hb;simp only[nl,decide_eq_true_eq,isEmpty_iff,Option.isNone_iff_eq_none] at h;obtain ⟨h1,h2,h3,h4,h5,h6,h7,h8,h9,h10,h11,h12⟩:=h;have nd:d.ps.Nodup:=by
    rw[<-(sN h5).pre];exact (sN h5).nd.sublist (take_sublist _ _)
   unfold KU at h12;rw[hf] at h12;have e6:fd.defaults=.none:=by
    split at h12
    ·rename_i e;exact e
    ·rw[nl] at h12;cases h12.1
    ·cases h12
   have:=qt nd h7 (beq_iff_eq.mp h8) h9 h10 h11 e6 [v] (by rw[hp];rfl);rw[hp] at this;exact .of_eq this
  ·cases h
 ·cases h
def Dt {P:Program}{w:World}{h:Heap}{fa:Addr}{cs:List Addr}{fl k:Nat}(X:K.In h)(G:h.Ns mainGlobals mg)(hfa:mg "law"=some (.ref fa))
  (z1:FQ K T fs cs gs=true) (z2:pj K T fs 0 T.fns=true) (z3:EZ (nsIn K mainGlobals "law") (fs.getD fl 0)=true) (hd:T.fns[fl]? =some d) (hp:d.ps=[("_law_script":Str)]) (hf:d.dfl=[])
  (ht:∀ vs H Q E,jx K 63 vs H Q E->ab T (G2 K fs cs gs) k fl vs H Q E):
  ∃ fd:FuncData,(∀ (s:Shared) (v:Value),BindsTo s fd ⟨[v],[]⟩ [("_law_script",v)])/\∀ base:Heap,K.In base->base.Ns mainGlobals mg->dm P w K mg base (yP P w) (2*k) fa fd ["_law_script"] (jx K 63):=by
 have e0:fs.getD fl 0=fa:=by
  have e:=hfa.symm.trans (mg_of X G (gy z3))
  injection e with e
  injection e with e
  exact e.symm
 have fn:=B6 z2;have tk:=Dw X G z1;have N:=fn fl d hd;have hN:=Cy z2 hd;obtain ⟨oc,od,fd,sl,e,hb⟩:=hN hp hf;refine ⟨fd,hb,λbase hb hg=>?_⟩;have F:=FO (P:=P) (w:=w) (base:=base) (R:=G2 K fs cs gs) tk rfl fn k fl d hd (fd:=fd) (lk:=e) (qI▸ht);rw[hp] at F;rw[<-e0];exact F
abbrev Mv (K:Frag)(a:Addr)(vs:List V):Bool:=match K.lookup a with
 |some ⟨.type t,_,.seq items _,_⟩=>t =="tuple"&&(decide (items.size<=1000)&&AX vs items.toList)
 |_=>false
def zp {a:Addr}{vs:List V}(h:Mv K a vs=true)(H:Hp):aX K H a vs:=by
 unfold Mv at h
 split at h
 ·rename_i t od items n sl e;simp only[nl,decide_eq_true_eq] at h;refine .inr ⟨_,items,n,e,?_,rfl,?_,pQ h.2.2⟩
  ·show Value.type t=_;rw[beq_iff_eq.mp h.1]
  ·exact Nat.le_of_lt (dh h.2.1)
 ·cases h
end L3
namespace L3
open PySem L2
noncomputable abbrev gC.c (e:Ex)(r:gC):gC:=.cons e r
noncomputable abbrev gC.n:gC:=.nil
noncomputable abbrev mQ.c (e:Sx)(r:mQ):mQ:=.cons e r
noncomputable abbrev mQ.n:mQ:=.nil
noncomputable abbrev BD.c (a b:Nat)(e:mQ)(r:BD):BD:=.cons a b e r
noncomputable abbrev BD.n:BD:=.nil
noncomputable abbrev Ex.i (x:Int):Ex:=.int x
noncomputable abbrev Ex.s (x:Str):Ex:=.str x
noncomputable abbrev Ex.k (x:Nat)(e:gC):Ex:=.call x e
noncomputable abbrev Ex.m (a:Ex)(x:Str)(e:gC):Ex:=.meth a x e
noncomputable abbrev Ex.f (c:Tx)(a b:Ex):Ex:=.ife c a b
noncomputable abbrev Ex.q (o:CmpOp)(a b:Ex):Ex:=.cmp o a b
noncomputable abbrev Tx.q (o:CmpOp)(a b:Ex):Tx:=.cmp o a b
noncomputable abbrev Sx.a (x:Nat)(e:Ex):Sx:=.asg x e
noncomputable abbrev Sx.r (e:Ex):Sx:=.ret e
noncomputable abbrev Sx.f (c:Tx)(a b:mQ):Sx:=.ife c a b
noncomputable abbrev Sx.e (e:Ex):Sx:=.expr e
end L3
set_option Elab.async false
set_option maxHeartbeats 8000000
open PySem PySem.Spec L2 L3
namespace My
open PySem L2 L3
set_option hygiene false
local macro_rules|`(#[])=>`(.n)|`(#[$x:term])=>`(.c $x .n)|`(#[$x:term,$xs:term,*])=>`(.c $x #[$xs,*])
set_option hygiene true
abbrev cL:au:=⟨["self","at"],["self","at"],[],#[.e (.bini #[.v 0,.s "no list of 1 to 60 contents"]),.fld (.v 0) "at" (.v 1)]⟩
abbrev cF:au:=⟨["self","low","behind","word"],["self","low","behind","word"],[],#[.e (.bini #[.v 0,.s "no stretch of the store, or no word for a leave"]),.fld (.v 0) "low" (.v 1),.fld (.v 0) "behind" (.v 2),.fld (.v 0) "word" (.v 3)]⟩
abbrev d6:au:=⟨["self","deed","cell"],["self","deed","cell"],[],#[.e (.bini #[.v 0,.s "a cell that is not there, or may not be looked at or put"]),.fld (.v 0) "deed" (.v 1),.fld (.v 0) "cell" (.v 2)]⟩
abbrev dB:au:=⟨["self","box","number"],["self","box","number"],[],#[.e (.bini #[.v 0,.s "a box can't hold this"]),.fld (.v 0) "box" (.v 1),.fld (.v 0) "number" (.v 2)]⟩
abbrev ji:au:=⟨["self","box"],["self","box"],[],#[.e (.bini #[.v 0,.s "no box of that name"]),.fld (.v 0) "box" (.v 1)]⟩
abbrev hW:au:=⟨["self","word"],["self","word"],[],#[.e (.bini #[.v 0,.s "a deed can't be made of this"]),.fld (.v 0) "word" (.v 1)]⟩
abbrev iw:au:=⟨["self","at"],["self","at"],[],#[.e (.bini #[.v 0,.s "no list of 1 to 24 deeds"]),.fld (.v 0) "at" (.v 1)]⟩
abbrev gm:au:=⟨["self","at"],["self","at"],[],#[.e (.bini #[.v 0,.s "no place to stand at"]),.fld (.v 0) "at" (.v 1)]⟩
abbrev iH:au:=⟨["self","at"],["self","at"],[],#[.e (.bini #[.v 0,.s "no part of the floor for this member"]),.fld (.v 0) "at" (.v 1)]⟩
abbrev fP:au:=⟨["self","k"],["self","k"],[],#[.e (.bini #[.v 0,.s "no member of that number"]),.fld (.v 0) "k" (.v 1)]⟩
abbrev kO:au:=⟨["thing"],["thing"],[],#[.r (.and (.isi (.v 0) (.ty "int")) (.not (.isi (.v 0) (.ty "bool"))))]⟩
abbrev iA:au:=⟨["thing"],["thing"],[],#[.r (.and (.k 10 #[.v 0]) (.cmp2 .LtE .LtE (.i 0) (.v 0) (.gl "BOUND")))]⟩
abbrev lp:au:=⟨["thing"],["thing"],[],#[.r (.and (.isi (.v 0) (.ty "str")) (.q .In (.v 0) (.gl "NAMES")))]⟩
abbrev jl:au:=⟨["thing"],["thing"],[],#[.r (.and (.k 10 #[.v 0]) (.cmp2 .LtE .LtE (.neg (.gl "BOUND")) (.v 0) (.gl "BOUND")))]⟩
abbrev A7:au:=⟨["box","thing"],["box","thing"],[],#[.f (.or (.q .Eq (.v 0) (.s "here")) (.q .Eq (.v 0) (.s "there"))) #[.r (.k 13 #[.v 1])] .n,.f (.q .Eq (.v 0) (.s "way")) #[.r (.and (.k 10 #[.v 1]) (.or (.q .Eq (.v 1) (.i 1)) (.q .Eq (.v 1) (.neg (.i 1)))))] .n,.f (.q .Eq (.v 0) (.s "met")) #[.r (.and (.k 10 #[.v 1]) (.or (.q .Eq (.v 1) (.i 0)) (.q .Eq (.v 1) (.i 1))))] .n,.r (.k 11 #[.v 1])]⟩
abbrev di:au:=⟨["self","here","there","left","way","sign","met"],["self","here","there","left","way","sign","met","handed","box","number"],[.int 0,.int 0,.int 0,.int 1,.int 0,.int 0],#[.a 7 (.tup #[.v 1,.v 2,.v 3,.v 4,.v 5,.v 6]),.for (.tp [8,9]) (.zip (.gl "NAMES") (.v 7)) #[.f (.not (.val (.k 14 #[.v 8,.v 9]))) #[.rais (.make 4 #[.v 8,.v 9])] .n],.fld (.v 0) "numbers" (.dzip (.gl "NAMES") (.v 7))]⟩
abbrev gi:au:=⟨["self","box"],["self","box"],[],#[.f (.not (.val (.k 12 #[.v 1]))) #[.rais (.make 5 #[.v 1])] .n,.r (.ix (.fld (.v 0) "numbers") (.v 1))]⟩
abbrev dF:au:=⟨["self","box","number"],["self","box","number"],[],#[.f (.not (.val (.k 12 #[.v 1]))) #[.rais (.make 5 #[.v 1])] .n,.f (.not (.val (.k 14 #[.v 1,.v 2]))) #[.rais (.make 4 #[.v 1,.v 2])] .n,.sub (.fld (.v 0) "numbers") (.v 1) (.v 2)]⟩
abbrev il:au:=⟨["self"],["self"],[],#[.r (.bf .tuple #[.lc (.ix (.fld (.v 1) "numbers") (.v 0)) [0] (.seq (.gl "NAMES"))])]⟩
abbrev eY:au:=⟨["self"],["self","other"],[],#[.a 1 (.make 11 .n),.fld (.v 1) "numbers" (.bf .dict #[.fld (.v 0) "numbers"]),.r (.v 1)]⟩
abbrev jj:au:=⟨["word","box"],["word","box"],[],#[.f (.not (.val (.k 12 #[.v 1]))) #[.rais (.make 6 #[.v 0])] .n]⟩
abbrev fj:au:=⟨["word","number"],["word","number"],[],#[.f (.not (.val (.k 13 #[.v 1]))) #[.rais (.make 6 #[.v 0])] .n]⟩
abbrev fz:au:=⟨["self","box","number"],["self","box","number"],[],#[.e (.k 20 #[.s "set",.v 1]),.e (.k 21 #[.s "set",.v 2]),.fld (.v 0) "box" (.v 1),.fld (.v 0) "number" (.v 2)]⟩
abbrev la:au:=⟨["self","boxes","store"],["self","boxes","store"],[],#[.e (.m (.v 1) "give" #[.fld (.v 0) "box",.fld (.v 0) "number"]),.r (.i 1)]⟩
abbrev qX:au:=⟨["self"],["self"],[],#[.r (.lst #[.s "set",.fld (.v 0) "box",.bf .str #[.fld (.v 0) "number"]])]⟩
abbrev eE:au:=⟨["self","box","number"],["self","box","number"],[],#[.e (.k 20 #[.s "add",.v 1]),.e (.k 21 #[.s "add",.v 2]),.fld (.v 0) "box" (.v 1),.fld (.v 0) "number" (.v 2)]⟩
abbrev lb:au:=⟨["self","boxes","store"],["self","boxes","store"],[],#[.e (.m (.v 1) "give" #[.fld (.v 0) "box",.bin .Add (.m (.v 1) "holds" #[.fld (.v 0) "box"]) (.fld (.v 0) "number")]),.r (.i 1)]⟩
abbrev qK:au:=⟨["self"],["self"],[],#[.r (.lst #[.s "add",.fld (.v 0) "box",.bf .str #[.fld (.v 0) "number"]])]⟩
abbrev dR:au:=⟨["self","box","other"],["self","box","other"],[],#[.e (.k 20 #[.s "take",.v 1]),.e (.k 20 #[.s "take",.v 2]),.fld (.v 0) "box" (.v 1),.fld (.v 0) "other" (.v 2)]⟩
abbrev jB:au:=⟨["self","boxes","store"],["self","boxes","store"],[],#[.e (.m (.v 1) "give" #[.fld (.v 0) "box",.m (.v 1) "holds" #[.fld (.v 0) "other"]]),.r (.i 1)]⟩
abbrev oy:au:=⟨["self"],["self"],[],#[.r (.lst #[.s "take",.fld (.v 0) "box",.fld (.v 0) "other"])]⟩
abbrev dU:au:=⟨["self","box"],["self","box"],[],#[.e (.k 20 #[.s "read",.v 1]),.fld (.v 0) "box" (.v 1)]⟩
abbrev jR:au:=⟨["self","boxes","store"],["self","boxes","store"],[],#[.e (.m (.v 1) "give" #[.fld (.v 0) "box",.m (.v 2) "look" #[.m (.v 1) "holds" #[.s "here"]]]),.r (.i 1)]⟩
abbrev pU:au:=⟨["self"],["self"],[],#[.r (.lst #[.s "read",.fld (.v 0) "box"])]⟩
abbrev dq:au:=⟨["self","box"],["self","box"],[],#[.e (.k 20 #[.s "write",.v 1]),.fld (.v 0) "box" (.v 1)]⟩
abbrev iI:au:=⟨["self","boxes","store"],["self","boxes","store","number"],[],#[.a 3 (.m (.v 1) "holds" #[.fld (.v 0) "box"]),.f (.not (.val (.k 11 #[.v 3]))) #[.rais (.make 4 #[.fld (.v 0) "box",.v 3])] .n,.e (.m (.v 2) "put" #[.m (.v 1) "holds" #[.s "there"],.v 3]),.r (.i 1)]⟩
abbrev mM:au:=⟨["self"],["self"],[],#[.r (.lst #[.s "write",.fld (.v 0) "box"])]⟩
abbrev iU:au:=⟨["rows"],["rows","at","thing"],[],#[.f (.or (.not (.val (.isi (.v 0) (.ty "list")))) (.not (.cmp2 .LtE .LtE (.i 1) (.bf .len #[.v 0]) (.gl "MOST_ROWS")))) #[.rais (.make 7 #[.neg (.i 1)])] .n,.for (.tp [1,2]) (.enm (.v 0)) #[.f (.not (.val (.isi (.v 2) (.own 12)))) #[.rais (.make 7 #[.v 1])] .n]]⟩
abbrev fY:au:=⟨["at","many"],["at","many"],[],#[.f (.or (.not (.val (.k 10 #[.v 0]))) (.not (.cmp2 .LtE .LtE (.i 0) (.v 0) (.v 1)))) #[.rais (.make 8 #[.v 0])] .n]⟩
abbrev vn:au:=⟨["deed","boxes","store"],["deed","boxes","store","stop","refusal"],[],#[.tryx #[.r (.tup #[.m (.v 0) "step" #[.v 1,.v 2],.non])] (.c 3 3 #[.r (.tup #[.non,.tup #[.fld (.v 3) "deed",.fld (.v 3) "cell"]])] (.c 4 4 #[.r (.tup #[.non,.tup #[.s "fit",.fld (.v 4) "box"]])] .n))]⟩
abbrev cK:au:=⟨["self","rows","store","boxes","at"],["self","rows","store","boxes","at"],[.int 0],#[.e (.k 37 #[.v 1]),.e (.k 38 #[.v 4,.bf .len #[.v 1]]),.fld (.v 0) "deeds" (.bf .list #[.v 1]),.fld (.v 0) "store" (.m (.v 2) "copied" .n),.fld (.v 0) "boxes" (.m (.v 3) "copied" .n),.fld (.v 0) "at" (.v 4)]⟩
abbrev d8:au:=⟨["self"],["self"],[],#[.r (.q .Eq (.fld (.v 0) "at") (.bf .len #[.fld (.v 0) "deeds"]))]⟩
abbrev c6:au:=⟨["self","store"],["self","store","by"],[],#[.f (.val (.m (.v 0) "ended" .n)) #[.r (.s "end")] .n,.a 2 (.ix (.k 39 #[.ix (.fld (.v 0) "deeds") (.fld (.v 0) "at"),.fld (.v 0) "boxes",.v 1]) (.i 0)),.f (.q .Is (.v 2) .non) #[.r (.s "stop")] .n,.fld (.v 0) "at" (.bf .min #[.bin .Add (.fld (.v 0) "at") (.v 2),.bf .len #[.fld (.v 0) "deeds"]]),.r (.s "on")]⟩
abbrev fk:au:=⟨["self"],["self"],[],#[.r (.m (.v 0) "step_on" #[.fld (.v 0) "store"])]⟩
abbrev dg:au:=⟨["self","most"],["self","most","steps"],[],#[.a 2 (.i 0),.whl (.and (.q .Lt (.v 2) (.v 1)) (.q .Eq (.m (.v 0) "step" .n) (.s "on"))) #[.aug 2 .Add (.i 1)],.f (.val (.m (.v 0) "ended" .n)) #[.r (.tup #[.s "end",.v 2])] .n,.f (.q .GtE (.v 2) (.v 1)) #[.r (.tup #[.s "bell",.v 2])] .n,.r (.tup #[.s "stop",.v 2])]⟩
abbrev dZ:au:=⟨["self"],["self"],[],#[.r (.tup #[.fld (.v 0) "at",.m (.fld (.v 0) "boxes") "told" .n,.m (.fld (.v 0) "store") "told" .n])]⟩
abbrev d9:au:=⟨["self","low","behind","word"],["self","low","behind","word"],[],#[.e (.m (.fld (.v 0) "store") "leave" #[.v 1,.v 2,.v 3])]⟩
abbrev lj:au:=⟨["self"],["self"],[],#[.r (.lc (.m (.v 0) "words" .n) [] (.seq (.fld (.v 0) "deeds")))]⟩
abbrev jd:au:=⟨["self"],["self"],[],#[.r (.make 18 #[.fld (.v 0) "deeds",.fld (.v 0) "store",.fld (.v 0) "boxes",.fld (.v 0) "at"])]⟩
abbrev fT:au:=⟨["cells"],["cells","at","thing"],[],#[.f (.or (.not (.val (.isi (.v 0) (.ty "list")))) (.not (.cmp2 .LtE .LtE (.i 1) (.bf .len #[.v 0]) (.gl "MOST_CELLS")))) #[.rais (.make 1 #[.neg (.i 1)])] .n,.for (.tp [1,2]) (.enm (.v 0)) #[.f (.not (.val (.k 11 #[.v 2]))) #[.rais (.make 1 #[.v 1])] .n]]⟩
abbrev lQ:au:=⟨["word"],["word"],[],#[.r (.and (.isi (.v 0) (.ty "str")) (.q .In (.v 0) (.gl "LEAVES")))]⟩
abbrev jq:au:=⟨["low","behind","size"],["low","behind","size"],[],#[.r (.and (.k 10 #[.v 0]) (.and (.k 10 #[.v 1]) (.cmp3 .LtE .LtE .LtE (.i 0) (.v 0) (.v 1) (.v 2))))]⟩
abbrev dw:au:=⟨["self","cells"],["self","cells"],[],#[.e (.k 49 #[.v 1]),.fld (.v 0) "contents" (.bf .list #[.v 1]),.fld (.v 0) "permits" (.bin .Mult (.lst #[.s "open"]) (.bf .len #[.v 1]))]⟩
abbrev gU:au:=⟨["self"],["self"],[],#[.r (.bf .len #[.fld (.v 0) "contents"])]⟩
abbrev hZ:au:=⟨["self"],["self"],[],#[.r (.bf .list #[.fld (.v 0) "contents"])]⟩
abbrev fW:au:=⟨["self","low","behind","word"],["self","low","behind","word","cell"],[],#[.f (.or (.not (.val (.k 51 #[.v 1,.v 2,.m (.v 0) "size" .n]))) (.not (.val (.k 50 #[.v 3])))) #[.rais (.make 2 #[.v 1,.v 2,.v 3])] .n,.for (.nm 4) (.rng2 (.v 1) (.v 2)) #[.sub (.fld (.v 0) "permits") (.v 4) (.v 3)]]⟩
abbrev jX:au:=⟨["self","deed","cell"],["self","deed","cell"],[],#[.f (.not (.cmp2 .LtE .Lt (.i 0) (.v 2) (.m (.v 0) "size" .n))) #[.r (.bl false)] .n,.f (.q .Eq (.ix (.fld (.v 0) "permits") (.v 2)) (.s "look")) #[.r (.q .Eq (.v 1) (.s "look"))] .n,.r (.q .Eq (.ix (.fld (.v 0) "permits") (.v 2)) (.s "open"))]⟩
abbrev iy:au:=⟨["self","cell"],["self","cell"],[],#[.f (.not (.val (.m (.v 0) "may" #[.s "look",.v 1]))) #[.rais (.make 3 #[.s "look",.v 1])] .n,.r (.ix (.fld (.v 0) "contents") (.v 1))]⟩
abbrev jW:au:=⟨["self","cell","content"],["self","cell","content"],[],#[.f (.not (.val (.m (.v 0) "may" #[.s "put",.v 1]))) #[.rais (.make 3 #[.s "put",.v 1])] .n,.sub (.fld (.v 0) "contents") (.v 1) (.v 2)]⟩
abbrev eD:au:=⟨["self"],["self","other"],[],#[.a 1 (.make 19 #[.lst #[.i 0]]),.fld (.v 1) "contents" (.bf .list #[.fld (.v 0) "contents"]),.fld (.v 1) "permits" (.bf .list #[.fld (.v 0) "permits"]),.r (.v 1)]⟩
abbrev l9:au:=⟨["one","other"],["one","other","low","behind"],[],#[.a 2 (.bf .max #[.ix (.v 0) (.i 0),.ix (.v 1) (.i 0)]),.a 3 (.bf .min #[.ix (.v 0) (.i 1),.ix (.v 1) (.i 1)]),.f (.q .Lt (.v 2) (.v 3)) #[.r (.tup #[.v 2,.v 3])] .n,.r .non]⟩
abbrev vZ:au:=⟨["stretches"],["stretches","place","stretch","earlier"],[],#[.for (.tp [1,2]) (.enm (.v 0)) #[.for (.nm 3) (.seq (.sl (.v 0) .no (.yes (.v 1)))) #[.f (.q .IsNot (.k 60 #[.v 3,.v 2]) .non) #[.r (.bl false)] .n]],.r (.bl true)]⟩
abbrev jK:au:=⟨["thing"],["thing"],[],#[.r (.and (.isi (.v 0) (.ty "tuple")) (.q .Eq (.bf .len #[.v 0]) (.gl "THINGS_OF_A_MEMBER")))]⟩
abbrev f9:au:=⟨["thing"],["thing"],[],#[.f (.or (.not (.val (.isi (.v 0) (.ty "list")))) (.not (.cmp2 .LtE .LtE (.i 1) (.bf .len #[.v 0]) (.gl "MOST_MEMBERS")))) #[.r (.bl false)] .n,.r (.bf .all #[.lc (.k 62 #[.v 0]) [] (.seq (.v 0))])]⟩
abbrev nR:au:=⟨["part","size"],["part","size"],[],#[.r (.and (.k 51 #[.ix (.v 0) (.i 0),.ix (.v 0) (.i 1),.v 1]) (.q .Lt (.ix (.v 0) (.i 0)) (.ix (.v 0) (.i 1))))]⟩
abbrev kH:au:=⟨["members","size"],["members","size","parts","at","member","part"],[],#[.f (.not (.val (.k 63 #[.v 0]))) #[.rais (.make 9 #[.neg (.i 1)])] .n,.a 2 (.lst .n),.for (.tp [3,4]) (.enm (.v 0)) #[.a 5 (.tup #[.ix (.v 4) (.i 0),.ix (.v 4) (.i 1)]),.f (.or (.not (.val (.k 64 #[.v 5,.v 1]))) (.not (.val (.k 61 #[.bin .Add (.v 2) (.lst #[.v 5])])))) #[.rais (.make 9 #[.v 3])] .n,.e (.lm .append (.v 2) #[.v 5])],.r (.v 2)]⟩
abbrev iB:au:=⟨["cells","part","member"],["cells","part","member"],[],#[.r (.make 18 #[.ix (.v 2) (.i 2),.make 19 #[.sl (.v 0) (.yes (.ix (.v 1) (.i 0))) (.yes (.ix (.v 1) (.i 1)))],.ix (.v 2) (.i 3)])]⟩
abbrev d7:au:=⟨["self","cells","members"],["self","cells","members"],[],#[.fld (.v 0) "ground" (.make 19 #[.v 1]),.fld (.v 0) "parts" (.k 65 #[.v 2,.m (.fld (.v 0) "ground") "size" .n]),.fld (.v 0) "machines" (.lct (.k 66 #[.v 2,.v 0,.v 1]) 2 [1] (.zip (.fld (.v 0) "parts") (.v 2)))]⟩
abbrev cu:au:=⟨["self","k"],["self","k"],[],#[.f (.or (.not (.val (.k 10 #[.v 1]))) (.not (.cmp2 .LtE .Lt (.i 0) (.v 1) (.bf .len #[.fld (.v 0) "machines"])))) #[.rais (.make 10 #[.v 1])] .n]⟩
abbrev c7:au:=⟨["self","k"],["self","k"],[],#[.e (.m (.v 0) "check_member" #[.v 1]),.r (.ix (.fld (.v 0) "machines") (.v 1))]⟩
abbrev ju:au:=⟨["self","k"],["self","k"],[],#[.r (.m (.m (.v 0) "machine_of" #[.v 1]) "step" .n)]⟩
abbrev kL:au:=⟨["self","k","most"],["self","k","most"],[],#[.r (.m (.m (.v 0) "machine_of" #[.v 1]) "run" #[.v 2])]⟩
abbrev g9:au:=⟨["self","k"],["self","k"],[],#[.r (.m (.m (.v 0) "machine_of" #[.v 1]) "state" .n)]⟩
abbrev nS:au:=⟨["self","order"],["self","order","k"],[],#[.for (.nm 2) (.seq (.v 1)) #[.e (.m (.v 0) "check_member" #[.v 2])],.r (.lc (.m (.v 1) "step" #[.v 0]) [0] (.seq (.v 1)))]⟩
abbrev iz:au:=⟨["self"],["self","cells","part","machine"],[],#[.a 1 (.m (.fld (.v 0) "ground") "told" .n),.for (.tp [2,3]) (.zip (.fld (.v 0) "parts") (.fld (.v 0) "machines")) #[.a 1 (.bin .Add (.bin .Add (.sl (.v 1) .no (.yes (.ix (.v 2) (.i 0)))) (.ix (.m (.v 3) "state" .n) (.i 2))) (.sl (.v 1) (.yes (.ix (.v 2) (.i 1))) .no))],.r (.v 1)]⟩
abbrev iG:au:=⟨["self","low","behind","word"],["self","low","behind","word","part","machine","both"],[],#[.e (.m (.fld (.v 0) "ground") "leave" #[.v 1,.v 2,.v 3]),.for (.tp [4,5]) (.zip (.fld (.v 0) "parts") (.fld (.v 0) "machines")) #[.a 6 (.k 60 #[.tup #[.v 1,.v 2],.v 4]),.f (.q .IsNot (.v 6) .non) #[.e (.m (.v 5) "leave" #[.bin .Sub (.ix (.v 6) (.i 0)) (.ix (.v 4) (.i 0)),.bin .Sub (.ix (.v 6) (.i 1)) (.ix (.v 4) (.i 0)),.v 3])] .n]]⟩
abbrev nG:au:=⟨["thing"],["thing"],[],#[.r (.and (.k 10 #[.v 0]) (.cmp2 .LtE .LtE (.i 0) (.v 0) (.gl "MOST_HOPPED")))]⟩
abbrev uS:au:=⟨["thing"],["thing"],[],#[.r (.or (.q .Is (.v 0) .non) (.and (.k 10 #[.v 0]) (.or (.q .Eq (.v 0) (.i 0)) (.q .Eq (.v 0) (.i 1)))))]⟩
abbrev ff:au:=⟨["self","many","on"],["self","many","on"],[.non],#[.f (.or (.not (.val (.k 76 #[.v 1]))) (.not (.val (.k 77 #[.v 2])))) #[.rais (.make 6 #[.s "hop"])] .n,.fld (.v 0) "many" (.v 1),.fld (.v 0) "on" (.v 2)]⟩
abbrev kU:au:=⟨["self","boxes","store"],["self","boxes","store"],[],#[.f (.or (.q .Is (.fld (.v 0) "on") .non) (.q .Eq (.fld (.v 0) "on") (.m (.v 1) "holds" #[.s "met"]))) #[.r (.bin .Add (.i 1) (.fld (.v 0) "many"))] .n,.r (.i 1)]⟩
abbrev qM:au:=⟨["self"],["self","told"],[],#[.a 1 (.lst #[.s "hop",.bf .str #[.fld (.v 0) "many"]]),.f (.q .IsNot (.fld (.v 0) "on") .non) #[.e (.lm .extend (.v 1) #[.lst #[.s "if",.bf .str #[.fld (.v 0) "on"]]])] .n,.r (.v 1)]⟩
abbrev pv:au:=⟨["boxes","box","by"],["boxes","box","by"],[],#[.e (.m (.v 0) "give" #[.v 1,.bin .Add (.m (.v 0) "holds" #[.v 1]) (.v 2)])]⟩
abbrev eh:au:=⟨["boxes","box"],["boxes","box"],[],#[.e (.k 81 #[.v 0,.v 1,.m (.v 0) "holds" #[.s "way"]])]⟩
abbrev jo:au:=⟨["boxes","by"],["boxes","by"],[],#[.e (.k 81 #[.v 0,.s "left",.neg (.v 1)]),.r (.f (.q .Eq (.m (.v 0) "holds" #[.s "left"]) (.i 0)) (.i 1) (.i 0))]⟩
abbrev m9:au:=⟨["store","cell"],["store","cell"],[],#[.f (.not (.val (.m (.v 0) "may" #[.s "put",.v 1]))) #[.rais (.make 3 #[.s "put",.v 1])] .n]⟩
abbrev zA:au:=⟨["store","source","target"],["store","source","target","content"],[],#[.a 3 (.m (.v 0) "look" #[.v 1]),.e (.m (.v 0) "put" #[.v 2,.v 3])]⟩
abbrev k6:au:=⟨["store","one","other"],["store","one","other","first","second"],[],#[.a 3 (.m (.v 0) "look" #[.v 1]),.a 4 (.m (.v 0) "look" #[.v 2]),.e (.k 84 #[.v 0,.v 1]),.e (.k 84 #[.v 0,.v 2]),.e (.m (.v 0) "put" #[.v 1,.v 4]),.e (.m (.v 0) "put" #[.v 2,.v 3])]⟩
abbrev jk:au:=⟨["self","boxes","store"],["self","boxes","store"],[],#[.f (.q .Eq (.m (.v 1) "holds" #[.s "left"]) (.i 0)) #[.r (.i 1)] .n,.e (.k 85 #[.v 2,.m (.v 1) "holds" #[.s "here"],.m (.v 1) "holds" #[.s "there"]]),.e (.k 82 #[.v 1,.s "here"]),.e (.k 82 #[.v 1,.s "there"]),.r (.k 83 #[.v 1,.i 1])]⟩
abbrev pq:au:=⟨["self"],["self"],[],#[.r (.lst #[.s "copy"])]⟩
abbrev jD:au:=⟨["self","boxes","store"],["self","boxes","store"],[],#[.f (.q .Eq (.m (.v 1) "holds" #[.s "left"]) (.i 0)) #[.r (.i 1)] .n,.e (.m (.v 2) "put" #[.m (.v 1) "holds" #[.s "there"],.m (.v 1) "holds" #[.s "sign"]]),.e (.k 82 #[.v 1,.s "there"]),.r (.k 83 #[.v 1,.i 1])]⟩
abbrev ou:au:=⟨["self"],["self"],[],#[.r (.lst #[.s "fill"])]⟩
abbrev jM:au:=⟨["self","boxes","store"],["self","boxes","store"],[],#[.f (.q .Eq (.m (.v 1) "holds" #[.s "left"]) (.i 0)) #[.e (.m (.v 1) "give" #[.s "met",.i 0]),.r (.i 1)] .n,.f (.q .Eq (.m (.v 2) "look" #[.m (.v 1) "holds" #[.s "here"]]) (.m (.v 1) "holds" #[.s "sign"])) #[.e (.m (.v 1) "give" #[.s "met",.i 1]),.r (.i 1)] .n,.e (.m (.v 1) "give" #[.s "met",.i 0]),.e (.k 82 #[.v 1,.s "here"]),.r (.k 83 #[.v 1,.i 1])]⟩
abbrev pP:au:=⟨["self"],["self"],[],#[.r (.lst #[.s "seek"])]⟩
abbrev gX:au:=⟨["self","boxes","store"],["self","boxes","store","content"],[],#[.f (.q .Eq (.m (.v 1) "holds" #[.s "left"]) (.i 0)) #[.e (.m (.v 1) "give" #[.s "met",.i 1]),.r (.i 1)] .n,.a 3 (.m (.v 2) "look" #[.m (.v 1) "holds" #[.s "here"]]),.f (.q .NotEq (.v 3) (.m (.v 2) "look" #[.m (.v 1) "holds" #[.s "there"]])) #[.e (.m (.v 1) "give" #[.s "met",.i 0]),.r (.i 1)] .n,.e (.m (.v 1) "give" #[.s "met",.i 1]),.e (.k 82 #[.v 1,.s "here"]),.e (.k 82 #[.v 1,.s "there"]),.r (.k 83 #[.v 1,.i 1])]⟩
abbrev my:au:=⟨["self"],["self"],[],#[.r (.lst #[.s "match"])]⟩
abbrev gP:au:=⟨["self","boxes","store"],["self","boxes","store","left","here","there"],[],#[.a 3 (.m (.v 1) "holds" #[.s "left"]),.f (.q .Eq (.v 3) (.i 0)) #[.r (.i 1)] .n,.a 4 (.m (.v 1) "holds" #[.s "here"]),.a 5 (.m (.v 1) "holds" #[.s "there"]),.f (.q .LtE (.v 5) (.v 4)) #[.e (.k 85 #[.v 2,.v 4,.v 5]),.e (.k 81 #[.v 1,.s "here",.i 1]),.e (.k 81 #[.v 1,.s "there",.i 1])] #[.e (.k 85 #[.v 2,.bin .Sub (.bin .Add (.v 4) (.v 3)) (.i 1),.bin .Sub (.bin .Add (.v 5) (.v 3)) (.i 1)])],.r (.k 83 #[.v 1,.i 1])]⟩
abbrev mw:au:=⟨["self"],["self"],[],#[.r (.lst #[.s "shift"])]⟩
abbrev jC:au:=⟨["self","boxes","store"],["self","boxes","store","left","here"],[],#[.a 3 (.m (.v 1) "holds" #[.s "left"]),.f (.q .Eq (.v 3) (.i 0)) #[.r (.i 1)] .n,.f (.q .Eq (.v 3) (.i 1)) #[.r (.k 83 #[.v 1,.i 1])] .n,.a 4 (.m (.v 1) "holds" #[.s "here"]),.e (.k 86 #[.v 2,.v 4,.bin .Sub (.bin .Add (.v 4) (.v 3)) (.i 1)]),.e (.k 81 #[.v 1,.s "here",.i 1]),.r (.k 83 #[.v 1,.i 2])]⟩
abbrev pV:au:=⟨["self"],["self"],[],#[.r (.lst #[.s "turn"])]⟩
abbrev jJ:au:=⟨["_law_script"],["_law_script","_law_cells","_law_fold","_law_cell"],[],#[.a 1 (.bf .list #[.sl (.v 0) .no (.yes (.i 63))]),.a 2 (.bf .len #[.v 1]),.for (.nm 3) (.seq (.v 1)) #[.a 2 (.bin .Mod (.bin .Add (.bin .Add (.bin .Mult (.v 2) (.i 48271)) (.bin .Mod (.v 3) (.i 2147483647))) (.i 1)) (.i 2147483629))],.r (.lst #[.v 1,.v 2,.i 0,.i 0,.i 0])]⟩
abbrev jO:au:=⟨["_law_hand_here","_law_many"],["_law_hand_here","_law_many","_law_rest","_law_cell","_law_one","_law_two"],[],#[.augS (.v 0) (.i 4) .Add (.i 1),.a 2 (.ix (.v 0) (.i 3)),.a 3 (.ix (.v 0) (.i 1)),.f (.q .Gt (.v 2) (.i 0)) #[.sub (.v 0) (.i 3) (.bin .FloorDiv (.v 2) (.v 1)),.r (.bin .Mod (.v 2) (.v 1))] .n,.f (.q .Lt (.ix (.v 0) (.i 2)) (.bf .len #[.ix (.v 0) (.i 0)])) #[.a 3 (.ix (.ix (.v 0) (.i 0)) (.ix (.v 0) (.i 2))),.augS (.v 0) (.i 2) .Add (.i 1),.f (.q .GtE (.v 3) (.bin .Pow (.i 10) (.i 18))) #[.sub (.v 0) (.i 3) (.bin .FloorDiv (.v 3) (.v 1)),.r (.bin .Mod (.v 3) (.v 1))] .n] .n,.a 4 (.bin .Mod (.bin .Pow (.bin .Add (.bin .Mod (.v 3) (.i 998244353)) (.bin .Mult (.i 7919) (.ix (.v 0) (.i 4)))) (.i 5)) (.i 2147483647)),.a 5 (.bin .Mod (.bin .Pow (.bin .Add (.bin .Add (.v 4) (.bin .Mult (.i 104729) (.ix (.v 0) (.i 4)))) (.ix (.v 0) (.i 1))) (.i 3)) (.i 2147483629)),.r (.bin .Mod (.bin .FloorDiv (.v 5) (.i 7)) (.v 1))]⟩
abbrev gS:au:=⟨["_law_thing"],["_law_thing"],[],#[.r (.and (.isi (.v 0) (.ty "int")) (.not (.isi (.v 0) (.ty "bool"))))]⟩
abbrev jQ:au:=⟨["_law_hand_here","_law_size"],["_law_hand_here","_law_size","_law_way","_law_names","_law_box","_law_pick"],[],#[.a 2 (.k 100 #[.v 0,.i 14]),.a 3 (.lst #[.s "here",.s "there",.s "left",.s "way",.s "sign",.s "met"]),.a 4 (.ix (.v 3) (.k 100 #[.v 0,.i 6])),.f (.q .Lt (.v 2) (.i 6)) #[.r (.tup #[.ix (.lst #[.s "copy",.s "fill",.s "seek",.s "match",.s "shift",.s "turn"]) (.v 2)])] .n,.f (.q .Lt (.v 2) (.i 9)) #[.a 4 (.ix (.lst #[.s "here",.s "there",.s "left",.v 4]) (.k 100 #[.v 0,.i 4])),.a 5 (.bin .FloorDiv (.k 100 #[.v 0,.i 8]) (.i 3)),.r (.tup #[.s "set",.v 4,.ix (.lst #[.k 100 #[.v 0,.bin .Add (.v 1) (.i 1)],.bin .Sub (.k 100 #[.v 0,.i 5]) (.i 2),.bin .Sub (.bin .Pow (.i 10) (.i 9)) (.k 100 #[.v 0,.i 2])]) (.v 5)])] .n,.f (.q .Eq (.v 2) (.i 9)) #[.a 5 (.bin .FloorDiv (.k 100 #[.v 0,.i 7]) (.i 3)),.r (.tup #[.s "add",.v 4,.ix (.lst #[.bin .Sub (.k 100 #[.v 0,.i 7]) (.i 3),.k 100 #[.v 0,.bin .Add (.v 1) (.i 1)],.neg (.bin .Pow (.i 10) (.i 9))]) (.v 5)])] .n,.f (.q .Eq (.v 2) (.i 10)) #[.r (.tup #[.s "take",.v 4,.ix (.v 3) (.k 100 #[.v 0,.i 6])])] .n,.f (.q .Lt (.v 2) (.i 13)) #[.r (.tup #[.ix (.lst #[.s "read",.s "write"]) (.bin .Sub (.v 2) (.i 11)),.v 4])] .n,.r (.tup #[.s "hop",.k 100 #[.v 0,.i 4],.ix (.lst #[.non,.i 0,.i 1]) (.k 100 #[.v 0,.i 3])])]⟩
abbrev jP:au:=⟨["_law_spec_here"],["_law_spec_here","_law_word"],[],#[.a 1 (.ix (.v 0) (.i 0)),.f (.q .Eq (.v 1) (.s "set")) #[.r (.make 13 #[.ix (.v 0) (.i 1),.ix (.v 0) (.i 2)])] .n,.f (.q .Eq (.v 1) (.s "add")) #[.r (.make 14 #[.ix (.v 0) (.i 1),.ix (.v 0) (.i 2)])] .n,.f (.q .Eq (.v 1) (.s "take")) #[.r (.make 15 #[.ix (.v 0) (.i 1),.ix (.v 0) (.i 2)])] .n,.f (.q .Eq (.v 1) (.s "read")) #[.r (.make 16 #[.ix (.v 0) (.i 1)])] .n,.f (.q .Eq (.v 1) (.s "write")) #[.r (.make 17 #[.ix (.v 0) (.i 1)])] .n,.f (.q .Eq (.v 1) (.s "hop")) #[.r (.make 21 #[.ix (.v 0) (.i 1),.ix (.v 0) (.i 2)])] .n,.r (.k 104 #[.v 1])]⟩
abbrev jy:au:=⟨["_law_word"],["_law_word"],[],#[.f (.q .Eq (.v 0) (.s "copy")) #[.r (.vU 22)] .n,.f (.q .Eq (.v 0) (.s "fill")) #[.r (.vU 23)] .n,.f (.q .Eq (.v 0) (.s "seek")) #[.r (.vU 24)] .n,.f (.q .Eq (.v 0) (.s "match")) #[.r (.vU 25)] .n,.f (.q .Eq (.v 0) (.s "shift")) #[.r (.vU 26)] .n,.r (.vU 27)]⟩
abbrev lI:au:=⟨["_law_leaves","_law_deed_here","_law_cell"],["_law_leaves","_law_deed_here","_law_cell"],[],#[.f (.or (.q .Lt (.v 2) (.i 0)) (.q .GtE (.v 2) (.bf .len #[.v 0]))) #[.r (.bl false)] .n,.r (.or (.q .Eq (.ix (.v 0) (.v 2)) (.s "open")) (.and (.q .Eq (.ix (.v 0) (.v 2)) (.s "look")) (.q .Eq (.v 1) (.s "look"))))]⟩
abbrev gW:au:=⟨["_law_spec_here","_law_boxes"],["_law_spec_here","_law_boxes","_law_here","_law_there","_law_left","_law_word","_law_far"],[],#[.par [2,3,4] #[.ix (.v 1) (.s "here"),.ix (.v 1) (.s "there"),.ix (.v 1) (.s "left")],.a 5 (.ix (.v 0) (.i 0)),.f (.q .Eq (.v 5) (.s "read")) #[.r (.tup #[.lst #[.v 2],.lst .n])] .n,.f (.q .Eq (.v 5) (.s "write")) #[.r (.tup #[.lst .n,.lst #[.v 3]])] .n,.f (.or (.q .Eq (.v 4) (.i 0)) (.and (.q .Eq (.v 5) (.s "turn")) (.q .Eq (.v 4) (.i 1)))) #[.r (.tup #[.lst .n,.lst .n])] .n,.f (.q .Eq (.v 5) (.s "copy")) #[.r (.tup #[.lst #[.v 2],.lst #[.v 3]])] .n,.f (.q .Eq (.v 5) (.s "fill")) #[.r (.tup #[.lst .n,.lst #[.v 3]])] .n,.f (.q .Eq (.v 5) (.s "seek")) #[.r (.tup #[.lst #[.v 2],.lst .n])] .n,.f (.q .Eq (.v 5) (.s "match")) #[.r (.tup #[.lst #[.v 2,.v 3],.lst .n])] .n,.f (.q .Eq (.v 5) (.s "shift")) #[.a 6 (.ix (.lst #[.bin .Sub (.v 4) (.i 1),.i 0]) (.bf .int #[.q .LtE (.v 3) (.v 2)])),.r (.tup #[.lst #[.bin .Add (.v 2) (.v 6)],.lst #[.bin .Add (.v 3) (.v 6)]])] .n,.f (.q .Eq (.v 5) (.s "turn")) #[.r (.tup #[.lst #[.v 2,.bin .Sub (.bin .Add (.v 2) (.v 4)) (.i 1)],.lst #[.v 2,.bin .Sub (.bin .Add (.v 2) (.v 4)) (.i 1)]])] .n,.r (.tup #[.lst .n,.lst .n])]⟩
abbrev jL:au:=⟨["_law_box","_law_number"],["_law_box","_law_number"],[],#[.f (.or (.q .Eq (.v 0) (.s "here")) (.q .Eq (.v 0) (.s "there"))) #[.r (.cmp2 .LtE .LtE (.neg (.bin .Pow (.i 10) (.i 9))) (.v 1) (.bin .Pow (.i 10) (.i 9)))] .n,.f (.or (.q .Eq (.v 0) (.s "left")) (.q .Eq (.v 0) (.s "sign"))) #[.r (.cmp2 .LtE .LtE (.i 0) (.v 1) (.bin .Pow (.i 10) (.i 9)))] .n,.f (.q .Eq (.v 0) (.s "way")) #[.r (.or (.q .Eq (.v 1) (.i 1)) (.q .Eq (.v 1) (.neg (.i 1))))] .n,.r (.or (.q .Eq (.v 1) (.i 0)) (.q .Eq (.v 1) (.i 1)))]⟩
abbrev bZ:au:=⟨["_law_spec_here","_law_boxes","_law_leaves"],["_law_spec_here","_law_boxes","_law_leaves","_law_looks","_law_puts","_law_cell"],[],#[.f (.and (.q .Eq (.ix (.v 0) (.i 0)) (.s "write")) (.not (.cmp2 .LtE .LtE (.i 0) (.ix (.v 1) (.ix (.v 0) (.i 1))) (.bin .Pow (.i 10) (.i 9))))) #[.r (.tup #[.s "fit",.ix (.v 0) (.i 1),.ix (.v 1) (.ix (.v 0) (.i 1))])] .n,.asgT [3,4] (.k 106 #[.v 0,.v 1]),.for (.nm 5) (.seq (.v 3)) #[.f (.not (.val (.k 105 #[.v 2,.s "look",.v 5]))) #[.r (.tup #[.s "look",.v 5,.i 0])] .n],.for (.nm 5) (.seq (.v 4)) #[.f (.not (.val (.k 105 #[.v 2,.s "put",.v 5]))) #[.r (.tup #[.s "put",.v 5,.i 0])] .n],.r .non]⟩
abbrev jG:au:=⟨["_law_spec_here","_law_boxes","_law_cells","_law_leaves"],["_law_spec_here","_law_boxes","_law_cells","_law_leaves","_law_barred_here","_law_word","_law_number"],[],#[.a 4 (.k 108 #[.v 0,.v 1,.v 3]),.f (.q .IsNot (.v 4) .non) #[.r (.v 4)] .n,.a 5 (.ix (.v 0) (.i 0)),.f (.q .In (.v 5) (.tup #[.s "set",.s "add",.s "take",.s "read"])) #[.a 6 (.ix (.v 0) (.neg (.i 1))),.f (.q .Eq (.v 5) (.s "add")) #[.a 6 (.bin .Add (.ix (.v 1) (.ix (.v 0) (.i 1))) (.v 6))] .n,.f (.q .Eq (.v 5) (.s "take")) #[.a 6 (.ix (.v 1) (.ix (.v 0) (.i 2)))] .n,.f (.q .Eq (.v 5) (.s "read")) #[.a 6 (.ix (.v 2) (.ix (.v 1) (.s "here")))] .n,.f (.not (.val (.k 107 #[.ix (.v 0) (.i 1),.v 6]))) #[.r (.tup #[.s "fit",.ix (.v 0) (.i 1),.v 6])] .n,.sub (.v 1) (.ix (.v 0) (.i 1)) (.v 6),.r (.tup #[.s "on",.i 1,.i 0])] .n,.f (.q .Eq (.v 5) (.s "write")) #[.sub (.v 2) (.ix (.v 1) (.s "there")) (.ix (.v 1) (.ix (.v 0) (.i 1))),.r (.tup #[.s "on",.i 1,.i 0])] .n,.f (.q .Eq (.v 5) (.s "hop")) #[.r (.tup #[.s "on",.bin .Add (.i 1) (.bin .Mult (.ix (.v 0) (.i 1)) (.bf .int #[.or (.q .Is (.ix (.v 0) (.i 2)) .non) (.q .Eq (.ix (.v 0) (.i 2)) (.ix (.v 1) (.s "met")))])),.i 0])] .n,.r (.tup #[.s "on",.k 110 #[.v 5,.v 1,.v 2],.i 0])]⟩
abbrev gM:au:=⟨["_law_word","_law_boxes","_law_cells"],["_law_word","_law_boxes","_law_cells","_law_here","_law_there","_law_left","_law_way","_law_size","_law_content"],[],#[.par [3,4,5] #[.ix (.v 1) (.s "here"),.ix (.v 1) (.s "there"),.ix (.v 1) (.s "left")],.a 6 (.ix (.v 1) (.s "way")),.f (.q .In (.v 0) (.tup #[.s "seek",.s "match"])) #[.r (.k 111 #[.v 0,.v 1,.v 2])] .n,.f (.q .Eq (.v 5) (.i 0)) #[.r (.i 1)] .n,.a 7 (.i 1),.f (.q .Eq (.v 0) (.s "copy")) #[.sub (.v 2) (.v 4) (.ix (.v 2) (.v 3)),.sub (.v 1) (.s "here") (.bin .Add (.v 3) (.v 6)),.sub (.v 1) (.s "there") (.bin .Add (.v 4) (.v 6))] .n,.f (.q .Eq (.v 0) (.s "fill")) #[.sub (.v 2) (.v 4) (.ix (.v 1) (.s "sign")),.sub (.v 1) (.s "there") (.bin .Add (.v 4) (.v 6))] .n,.f (.and (.q .Eq (.v 0) (.s "shift")) (.q .LtE (.v 4) (.v 3))) #[.sub (.v 2) (.v 4) (.ix (.v 2) (.v 3)),.sub (.v 1) (.s "here") (.bin .Add (.v 3) (.i 1)),.sub (.v 1) (.s "there") (.bin .Add (.v 4) (.i 1))] #[.f (.q .Eq (.v 0) (.s "shift")) #[.sub (.v 2) (.bin .Sub (.bin .Add (.v 4) (.v 5)) (.i 1)) (.ix (.v 2) (.bin .Sub (.bin .Add (.v 3) (.v 5)) (.i 1)))] .n],.f (.and (.q .Eq (.v 0) (.s "turn")) (.q .Gt (.v 5) (.i 1))) #[.a 7 (.i 2),.a 8 (.ix (.v 2) (.v 3)),.sub (.v 2) (.v 3) (.ix (.v 2) (.bin .Sub (.bin .Add (.v 3) (.v 5)) (.i 1))),.sub (.v 2) (.bin .Sub (.bin .Add (.v 3) (.v 5)) (.i 1)) (.v 8),.sub (.v 1) (.s "here") (.bin .Add (.v 3) (.i 1))] .n,.sub (.v 1) (.s "left") (.bin .Sub (.v 5) (.v 7)),.r (.bf .int #[.q .Eq (.ix (.v 1) (.s "left")) (.i 0)])]⟩
abbrev fS:au:=⟨["_law_word","_law_boxes","_law_cells"],["_law_word","_law_boxes","_law_cells","_law_here","_law_there","_law_left","_law_way","_law_other"],[],#[.par [3,4,5] #[.ix (.v 1) (.s "here"),.ix (.v 1) (.s "there"),.ix (.v 1) (.s "left")],.a 6 (.ix (.v 1) (.s "way")),.f (.q .Eq (.v 5) (.i 0)) #[.sub (.v 1) (.s "met") (.bf .int #[.q .Eq (.v 0) (.s "match")]),.r (.i 1)] .n,.a 7 (.ix (.v 1) (.s "sign")),.f (.q .Eq (.v 0) (.s "match")) #[.a 7 (.ix (.v 2) (.v 4))] .n,.f (.q .Eq (.q .Eq (.ix (.v 2) (.v 3)) (.v 7)) (.q .Eq (.v 0) (.s "seek"))) #[.sub (.v 1) (.s "met") (.bf .int #[.q .Eq (.v 0) (.s "seek")]),.r (.i 1)] .n,.sub (.v 1) (.s "met") (.bf .int #[.q .Eq (.v 0) (.s "match")]),.sub (.v 1) (.s "here") (.bin .Add (.v 3) (.v 6)),.f (.q .Eq (.v 0) (.s "match")) #[.sub (.v 1) (.s "there") (.bin .Add (.v 4) (.v 6))] .n,.sub (.v 1) (.s "left") (.bin .Sub (.v 5) (.i 1)),.r (.bf .int #[.q .Eq (.v 5) (.i 1)])]⟩
abbrev g8:au:=⟨["_law_hand_here","_law_most"],["_law_hand_here","_law_most"],[],#[.r (.lc (.k 100 #[.v 1,.ix (.lst #[.i 3,.i 1000,.bin .Mult (.i 3) (.bin .Pow (.i 10) (.i 8))]) (.k 100 #[.v 1,.i 3])]) [0] (.rng1 (.bin .Add (.i 1) (.k 100 #[.v 0,.v 1]))))]⟩
abbrev kI:au:=⟨["_law_hand_here","_law_many"],["_law_hand_here","_law_many","_law_spots","_law_left","_law_six_here"],[],#[.a 2 (.lc (.ix (.lst #[.k 100 #[.v 1,.v 2],.i 0,.bin .Sub (.v 2) (.i 1),.v 2,.neg (.i 1),.bin .Pow (.i 10) (.i 9)]) (.k 100 #[.v 1,.i 6])) [0,1] (.rng1 (.i 2))),.a 3 (.ix (.lst #[.k 100 #[.v 0,.bin .Add (.v 1) (.i 1)],.v 1,.bin .Add (.v 1) (.i 1),.bin .Pow (.i 10) (.i 9),.i 0]) (.k 100 #[.v 0,.i 5])),.a 4 (.disp ["here","there","left","way"] #[.ix (.v 2) (.i 0),.ix (.v 2) (.i 1),.v 3,.bin .Sub (.i 1) (.bin .Mult (.i 2) (.k 100 #[.v 0,.i 2]))]),.sub (.v 4) (.s "sign") (.k 100 #[.v 0,.ix (.lst #[.i 3,.bin .Mult (.i 3) (.bin .Pow (.i 10) (.i 8))]) (.k 100 #[.v 0,.i 2])]),.sub (.v 4) (.s "met") (.k 100 #[.v 0,.i 2]),.r (.v 4)]⟩
abbrev iD:au:=⟨["_law_hand_here","_law_size"],["_law_hand_here","_law_size","_law_parts_here","_law_low","_law_k","_law_behind"],[],#[.a 2 (.lst .n),.a 3 (.ix (.lst #[.i 0,.k 100 #[.v 0,.v 1]]) (.k 100 #[.v 0,.i 2])),.for (.nm 4) (.rng1 (.bin .Add (.i 1) (.k 100 #[.v 0,.i 4]))) #[.f (.q .Lt (.v 3) (.v 1)) #[.a 5 (.bin .Add (.bin .Add (.v 3) (.i 1)) (.k 100 #[.v 0,.ix (.lst #[.bin .Sub (.v 1) (.v 3),.bf .min #[.i 9,.bin .Sub (.v 1) (.v 3)]]) (.k 100 #[.v 0,.i 2])])),.e (.lm .insert (.v 2) #[.k 100 #[.v 0,.bin .Add (.bf .len #[.v 2]) (.i 1)],.tup #[.v 3,.v 5]]),.a 3 (.bin .Add (.v 5) (.ix (.lst #[.i 0,.i 0,.i 1,.i 3]) (.k 100 #[.v 0,.i 4])))] .n],.r (.v 2)]⟩
abbrev fq:au:=⟨["_law_hand_here","_law_cells","_law_most"],["_law_hand_here","_law_cells","_law_most","_law_members_here","_law_low","_law_behind","_law_specs"],[],#[.a 3 (.lst .n),.for (.tp [4,5]) (.seq (.k 114 #[.v 0,.bf .len #[.v 1]])) #[.a 6 (.lc (.k 102 #[.v 1,.bin .Sub (.v 2) (.v 3)]) [0,5,4] (.rng1 (.bin .Add (.i 1) (.k 100 #[.v 0,.v 2])))),.e (.lm .append (.v 3) #[.tup #[.v 4,.v 5,.v 6,.k 113 #[.v 0,.bin .Sub (.v 5) (.v 4)]]])],.r (.v 3)]⟩
abbrev jT:au:=⟨["_law_cells","_law_members_here"],["_law_cells","_law_members_here","_law_some","_law_low","_law_behind","_law_specs","_law_six_here","_law_boxes"],[],#[.a 2 (.lst .n),.for (.tp [3,4,5,6]) (.seq (.v 1)) #[.a 7 (.make 11 #[.ix (.v 6) (.s "here"),.ix (.v 6) (.s "there"),.ix (.v 6) (.s "left"),.ix (.v 6) (.s "way"),.ix (.v 6) (.s "sign"),.ix (.v 6) (.s "met")]),.e (.lm .append (.v 2) #[.tup #[.v 3,.v 4,.lc (.k 103 #[.v 0]) [] (.seq (.v 5)),.v 7]])],.r (.make 20 #[.bf .list #[.v 0],.v 2])]⟩
abbrev gb:au:=⟨["_law_cells","_law_members_here"],["_law_cells","_law_members_here","_law_worlds_here","_law_low","_law_behind","_law_specs","_law_six_here"],[],#[.a 2 (.lst .n),.for (.tp [3,4,5,6]) (.seq (.v 1)) #[.e (.lm .append (.v 2) #[.lst #[.i 0,.bf .dict #[.v 6],.sl (.v 0) (.yes (.v 3)) (.yes (.v 4)),.bin .Mult (.lst #[.s "open"]) (.bin .Sub (.v 4) (.v 3))]])],.r (.v 2)]⟩
abbrev jF:au:=⟨["_law_specs","_law_world"],["_law_specs","_law_world","_law_told"],[],#[.f (.q .Eq (.ix (.v 1) (.i 0)) (.bf .len #[.v 0])) #[.r (.s "end")] .n,.a 2 (.k 109 #[.ix (.v 0) (.ix (.v 1) (.i 0)),.ix (.v 1) (.i 1),.ix (.v 1) (.i 2),.ix (.v 1) (.i 3)]),.f (.q .NotEq (.ix (.v 2) (.i 0)) (.s "on")) #[.r (.s "stop")] .n,.sub (.v 1) (.i 0) (.bf .min #[.bf .len #[.v 0],.bin .Add (.ix (.v 1) (.i 0)) (.ix (.v 2) (.i 1))]),.r (.s "on")]⟩
abbrev cf:au:=⟨["_law_found","_law_world"],["_law_found","_law_world"],[],#[.f (.or (.not (.val (.isi (.v 0) (.ty "tuple")))) (.or (.q .NotEq (.bf .len #[.v 0]) (.i 3)) (.not (.val (.isi (.ix (.v 0) (.i 2)) (.ty "list")))))) #[.r (.bl false)] .n,.r (.and (.q .Eq (.v 0) (.tup #[.ix (.v 1) (.i 0),.vals true (.ix (.v 1) (.i 1)),.ix (.v 1) (.i 2)])) (.k 101 #[.ix (.v 0) (.i 0)]))]⟩
abbrev fU:au:=⟨["_law_crew_here","_law_cells","_law_members_here","_law_worlds_here"],["_law_crew_here","_law_cells","_law_members_here","_law_worlds_here","_law_floor_here","_law_k","_law_place","_law_found"],[],#[.a 4 (.bf .list #[.v 1]),.for (.nm 5) (.rng1 (.bf .len #[.v 2])) #[.f (.not (.val (.k 119 #[.m (.v 0) "state" #[.v 5],.ix (.v 3) (.v 5)]))) #[.r (.bl false)] .n,.for (.nm 6) (.rng1 (.bf .len #[.ix (.ix (.v 3) (.v 5)) (.i 2)])) #[.sub (.v 4) (.bin .Add (.ix (.ix (.v 2) (.v 5)) (.i 0)) (.v 6)) (.ix (.ix (.ix (.v 3) (.v 5)) (.i 2)) (.v 6))]],.a 7 (.m (.v 0) "floor" .n),.r (.and (.isi (.v 7) (.ty "list")) (.and (.q .Eq (.v 7) (.v 4)) (.bf .all #[.lc (.k 101 #[.v 0]) [] (.seq (.v 7))])))]⟩
abbrev iK:au:=⟨["_law_crew_here","_law_members_here","_law_worlds_here","_law_low","_law_behind","_law_word"],["_law_crew_here","_law_members_here","_law_worlds_here","_law_low","_law_behind","_law_word","_law_told","_law_k","_law_cell"],[],#[.a 6 (.m (.v 0) "leave" #[.v 3,.v 4,.v 5]),.for (.nm 7) (.rng1 (.bf .len #[.v 1])) #[.for (.nm 8) (.rng2 (.bf .max #[.v 3,.ix (.ix (.v 1) (.v 7)) (.i 0)]) (.bf .min #[.v 4,.ix (.ix (.v 1) (.v 7)) (.i 1)])) #[.sub (.ix (.ix (.v 2) (.v 7)) (.i 3)) (.bin .Sub (.v 8) (.ix (.ix (.v 1) (.v 7)) (.i 0))) (.v 5)]],.r (.q .Is (.v 6) .non)]⟩
abbrev gI:au:=⟨["_law_specs","_law_world","_law_most"],["_law_specs","_law_world","_law_most","_law_done","_law_word"],[],#[.a 3 (.i 0),.a 4 (.s "on"),.whl (.and (.q .Lt (.v 3) (.v 2)) (.q .Eq (.v 4) (.s "on"))) #[.a 4 (.k 118 #[.v 0,.v 1]),.a 3 (.bin .Add (.v 3) (.bf .int #[.q .Eq (.v 4) (.s "on")]))],.f (.q .Eq (.ix (.v 1) (.i 0)) (.bf .len #[.v 0])) #[.r (.tup #[.s "end",.v 3])] .n,.r (.tup #[.ix (.lst #[.s "stop",.s "bell"]) (.bf .int #[.q .Eq (.v 3) (.v 2)]),.v 3])]⟩
abbrev lX:au:=⟨["_law_script"],["_law_script","_law_hand_here","_law_cells","_law_members_here","_law_crew_here","_law_worlds_here","_law_held","_law_turn","_law_way","_law_k","_law_most","_law_low","_law_behind","_law_word","_law_order","_law_due","_law_found"],[],#[.a 1 (.k 99 #[.v 0]),.a 2 (.k 112 #[.v 1,.ix (.lst #[.i 8,.i 24,.i 60]) (.k 100 #[.v 1,.i 3])]),.a 3 (.k 115 #[.v 1,.v 2,.i 8]),.a 4 (.k 116 #[.v 2,.v 3]),.a 5 (.k 117 #[.v 2,.v 3]),.a 6 (.lst .n),.for (.nm 7) (.rng1 (.i 24)) #[.a 8 (.k 100 #[.v 1,.i 6]),.a 9 (.k 100 #[.v 1,.bf .len #[.v 3]]),.f (.q .Eq (.v 8) (.i 0)) #[.a 10 (.k 100 #[.v 1,.i 15]),.f (.q .NotEq (.m (.v 4) "run" #[.v 9,.v 10]) (.k 122 #[.ix (.ix (.v 3) (.v 9)) (.i 2),.ix (.v 5) (.v 9),.v 10])) #[.r (.bl false)] .n] #[.f (.q .Eq (.v 8) (.i 1)) #[.a 11 (.k 100 #[.v 1,.bin .Add (.bf .len #[.v 2]) (.i 1)]),.a 12 (.bin .Add (.v 11) (.k 100 #[.v 1,.bin .Add (.bin .Sub (.bf .len #[.v 2]) (.v 11)) (.i 1)])),.a 13 (.ix (.lst #[.s "look",.s "shut",.s "open",.s "open"]) (.k 100 #[.v 1,.i 4])),.f (.not (.val (.k 121 #[.v 4,.v 3,.v 5,.v 11,.v 12,.v 13]))) #[.r (.bl false)] .n] #[.f (.q .Lt (.v 8) (.i 4)) #[.a 14 (.lc (.k 100 #[.v 1,.bf .len #[.v 2]]) [1,3] (.rng1 (.k 100 #[.v 1,.i 9]))),.a 15 (.lc (.k 118 #[.ix (.ix (.v 1) (.v 0)) (.i 2),.ix (.v 2) (.v 0)]) [3,5] (.seq (.v 14))),.a 16 (.m (.v 4) "go" #[.v 14]),.f (.or (.not (.val (.isi (.v 16) (.ty "list")))) (.q .NotEq (.v 16) (.v 15))) #[.r (.bl false)] .n,.e (.lm .append (.v 6) #[.tup #[.v 16,.v 15]])] #[.f (.q .NotEq (.m (.v 4) "step" #[.v 9]) (.k 118 #[.ix (.ix (.v 3) (.v 9)) (.i 2),.ix (.v 5) (.v 9)])) #[.r (.bl false)] .n]]],.f (.and (.q .Eq (.bin .Mod (.v 7) (.i 3)) (.i 0)) (.not (.val (.k 120 #[.v 4,.v 2,.v 3,.v 5])))) #[.r (.bl false)] .n],.f (.q .In (.bl false) (.lct (.q .Eq (.v 0) (.v 1)) 2 [] (.seq (.v 6)))) #[.r (.bl false)] .n,.r (.k 120 #[.v 4,.v 2,.v 3,.v 5])]⟩
@[reducible]def cM:Nat:=0
@[reducible]def cQ:Nat:=1
@[reducible]def jZ:Nat:=2
@[reducible]def i9:Nat:=3
@[reducible]def wm:Nat:=4
@[reducible]def vc:Nat:=5
@[reducible]def uM:Nat:=6
@[reducible]def tD:Nat:=7
@[reducible]def vQ:Nat:=8
@[reducible]def sJ:Nat:=9
@[reducible]def t8:Nat:=10
@[reducible]def pw:Nat:=11
@[reducible]def rP:Nat:=12
@[reducible]def rh:Nat:=13
@[reducible]def Gj:Nat:=14
@[reducible]def bV:Nat:=15
@[reducible]def aH:Nat:=16
@[reducible]def aG:Nat:=17
@[reducible]def gY:Nat:=18
@[reducible]def eJ:Nat:=19
@[reducible]def rB:Nat:=20
@[reducible]def lz:Nat:=21
@[reducible]def k7:Nat:=22
@[reducible]def uy:Nat:=23
@[reducible]def Es:Nat:=24
@[reducible]def lh:Nat:=25
@[reducible]def t4:Nat:=26
@[reducible]def Eh:Nat:=27
@[reducible]def ke:Nat:=28
@[reducible]def rH:Nat:=29
@[reducible]def Ed:Nat:=30
@[reducible]def j8:Nat:=31
@[reducible]def qN:Nat:=32
@[reducible]def CF:Nat:=33
@[reducible]def i3:Nat:=34
@[reducible]def oq:Nat:=35
@[reducible]def Bw:Nat:=36
@[reducible]def n6:Nat:=37
@[reducible]def mP:Nat:=38
@[reducible]def C4:Nat:=39
@[reducible]def gj:Nat:=40
@[reducible]def j4:Nat:=41
@[reducible]def iT:Nat:=42
@[reducible]def kP:Nat:=43
@[reducible]def mr:Nat:=44
@[reducible]def dW:Nat:=45
@[reducible]def dY:Nat:=46
@[reducible]def y9:Nat:=47
@[reducible]def xG:Nat:=48
@[reducible]def mG:Nat:=49
@[reducible]def sZ:Nat:=50
@[reducible]def qH:Nat:=51
@[reducible]def dA:Nat:=52
@[reducible]def gO:Nat:=53
@[reducible]def hV:Nat:=54
@[reducible]def fZ:Nat:=55
@[reducible]def jV:Nat:=56
@[reducible]def g6:Nat:=57
@[reducible]def jn:Nat:=58
@[reducible]def lq:Nat:=59
@[reducible]def qy:Nat:=60
@[reducible]def Ci:Nat:=61
@[reducible]def rp:Nat:=62
@[reducible]def mJ:Nat:=63
@[reducible]def xx:Nat:=64
@[reducible]def tE:Nat:=65
@[reducible]def iP:Nat:=66
@[reducible]def j5:Nat:=67
@[reducible]def fN:Nat:=68
@[reducible]def iL:Nat:=69
@[reducible]def rG:Nat:=70
@[reducible]def sP:Nat:=71
@[reducible]def pR:Nat:=72
@[reducible]def xD:Nat:=73
@[reducible]def oZ:Nat:=74
@[reducible]def oM:Nat:=75
@[reducible]def xA:Nat:=76
@[reducible]def Ea:Nat:=77
@[reducible]def l0:Nat:=78
@[reducible]def kK:Nat:=79
@[reducible]def EN:Nat:=80
@[reducible]def tN:Nat:=81
@[reducible]def jS:Nat:=82
@[reducible]def rZ:Nat:=83
@[reducible]def we:Nat:=84
@[reducible]def GC:Nat:=85
@[reducible]def uj:Nat:=86
@[reducible]def jz:Nat:=87
@[reducible]def DJ:Nat:=88
@[reducible]def js:Nat:=89
@[reducible]def CQ:Nat:=90
@[reducible]def jN:Nat:=91
@[reducible]def CJ:Nat:=92
@[reducible]def ig:Nat:=93
@[reducible]def Bz:Nat:=94
@[reducible]def iM:Nat:=95
@[reducible]def By:Nat:=96
@[reducible]def jE:Nat:=97
@[reducible]def CK:Nat:=98
@[reducible]def rf:Nat:=99
@[reducible]def sj:Nat:=100
@[reducible]def p6:Nat:=101
@[reducible]def su:Nat:=102
@[reducible]def rR:Nat:=103
@[reducible]def rj:Nat:=104
@[reducible]def tm:Nat:=105
@[reducible]def pO:Nat:=106
@[reducible]def se:Nat:=107
@[reducible]def fV:Nat:=108
@[reducible]def rK:Nat:=109
@[reducible]def p9:Nat:=110
@[reducible]def mR:Nat:=111
@[reducible]def oz:Nat:=112
@[reducible]def tH:Nat:=113
@[reducible]def pS:Nat:=114
@[reducible]def lx:Nat:=115
@[reducible]def qm:Nat:=116
@[reducible]def mz:Nat:=117
@[reducible]def jU:Nat:=118
@[reducible]def fc:Nat:=119
@[reducible]def f7:Nat:=120
@[reducible]def pL:Nat:=121
@[reducible]def kE:Nat:=122
@[reducible]def EI:Nat:=123
@[reducible]def E0:Nat:=0
@[reducible]def cC:Nat:=1
@[reducible]def du:Nat:=2
@[reducible]def bb:Nat:=3
@[reducible]def cx:Nat:=4
@[reducible]def KL:Nat:=5
@[reducible]def Jk:Nat:=6
@[reducible]def Il:Nat:=7
@[reducible]def HU:Nat:=8
@[reducible]def Jf:Nat:=9
@[reducible]def Hy:Nat:=10
@[reducible]def cb:Nat:=11
@[reducible]def Fn:Nat:=12
@[reducible]def EX:Nat:=13
@[reducible]def E5:Nat:=14
@[reducible]def yj:Nat:=15
@[reducible]def Bp:Nat:=16
@[reducible]def vE:Nat:=17
@[reducible]def ba:Nat:=18
@[reducible]def ar:Nat:=19
@[reducible]def bQ:Nat:=20
@[reducible]def nN:Nat:=21
@[reducible]def GI:Nat:=22
@[reducible]def F7:Nat:=23
@[reducible]def HB:Nat:=24
@[reducible]def DI:Nat:=25
@[reducible]def DG:Nat:=26
@[reducible]def Hu:Nat:=27
abbrev tab:Tab where
  fns:=(cL::cF::d6::dB::ji::hW::iw::gm::iH::fP::kO::iA::lp::jl::A7::di::gi::dF::il::eY::jj::fj::fz::la::qX::eE::lb::qK::dR::jB::oy::dU::jR::pU::dq::iI::mM::iU::fY::vn::cK::d8::c6::fk::dg::dZ::d9::lj::jd::fT::lQ::jq::dw::gU::hZ::fW::jX::iy::jW::eD::l9::vZ::jK::f9::nR::kH::iB::d7::cu::c7::ju::kL::g9::nS::iz::iG::nG::uS::ff::kU::qM::pv::eh::jo::m9::zA::k6::jk::pq::jD::ou::jM::pP::gX::my::gP::mw::jC::pV::jJ::jO::gS::jQ::jP::jy::lI::gW::jL::bZ::jG::gM::fS::g8::kI::iD::fq::jT::gb::jF::cf::fU::iK::gI::lX::[])
  gfn:=(("is_whole",10)::("is_content",11)::("is_box",12)::("is_number",13)::("fits",14)::("check_box",20)::("check_number",21)::("check_rows",37)::("check_place",38)::("tried",39)::("check_cells",49)::("is_leave",50)::("is_within",51)::("shared",60)::("apart",61)::("is_member",62)::("are_members",63)::("is_part",64)::("parts_of",65)::("machine_on",66)::("is_many",76)::("is_on",77)::("more",81)::("go_by_way",82)::("less_left",83)::("ask_put",84)::("haul",85)::("exchange",86)::("_law_hand",99)::("_law_draw",100)::("_law_whole",101)::("_law_spec",102)::("_law_deed",103)::("_law_long",104)::("_law_let",105)::("_law_reach",106)::("_law_fits",107)::("_law_barred",108)::("_law_step",109)::("_law_moved",110)::("_law_looked",111)::("_law_floor",112)::("_law_six",113)::("_law_parts",114)::("_law_members",115)::("_law_crew",116)::("_law_worlds",117)::("_law_goes",118)::("_law_member_stands",119)::("_law_stands",120)::("_law_given",121)::("_law_ran",122)::("law",123)::[])
  gcl:=[("HaulError",0),("NoStore",1),("NoLeave",2),("Stop",3),("NoFit",4),("NoBox",5),("NoDeed",6),("NoRows",7),("NoPlace",8),("NoPart",9),("NoMember",10),("Boxes",11),("Deed",12),("Set",13),("Add",14),("Take",15),("Read",16),("Write",17),("Machine",18),("Store",19),("Crew",20),("Hop",21),("Copy",22),("Fill",23),("Seek",24),("Match",25),("Shift",26),("Turn",27)]
  gbl:=["all","bool","dict","enumerate","int","isinstance","len","list","max","min","range","str","tuple","zip"]
  gbi:=["HaulError"]
  na:=((1,"at")::(2,"behind")::(2,"low")::(2,"word")::(3,"cell")::(3,"deed")::(4,"box")::(4,"number")::(5,"box")::(6,"word")::(7,"at")::(8,"at")::(9,"at")::(10,"k")::(11,"numbers")::(13,"box")::(13,"number")::(14,"box")::(14,"number")::(15,"box")::(15,"other")::(16,"box")::(17,"box")::(18,"at")::(18,"boxes")::(18,"deeds")::(18,"store")::(19,"contents")::(19,"permits")::(20,"ground")::(20,"machines")::(20,"parts")::(21,"many")::(21,"on")::[])
  me:=(((11,"copied"),19)::((11,"give"),17)::((11,"holds"),16)::((11,"told"),18)::((13,"step"),23)::((13,"words"),24)::((14,"step"),26)::((14,"words"),27)::((15,"step"),29)::((15,"words"),30)::((16,"step"),32)::((16,"words"),33)::((17,"step"),35)::((17,"words"),36)::((18,"copied"),48)::((18,"ended"),41)::((18,"leave"),46)::((18,"rows"),47)::((18,"run"),44)::((18,"state"),45)::((18,"step"),43)::((18,"step_on"),42)::((19,"copied"),59)::((19,"leave"),55)::((19,"look"),57)::((19,"may"),56)::((19,"put"),58)::((19,"size"),53)::((19,"told"),54)::((20,"check_member"),68)::((20,"floor"),74)::((20,"go"),73)::((20,"leave"),75)::((20,"machine_of"),69)::((20,"run"),71)::((20,"state"),72)::((20,"step"),70)::((21,"step"),79)::((21,"words"),80)::((22,"step"),87)::((22,"words"),88)::((23,"step"),89)::((23,"words"),90)::((24,"step"),91)::((24,"words"),92)::((25,"step"),93)::((25,"words"),94)::((26,"step"),95)::((26,"words"),96)::((27,"step"),97)::((27,"words"),98)::[])
  ini:=[(1,0),(2,1),(3,2),(4,3),(5,4),(6,5),(7,6),(8,7),(9,8),(10,9),(11,15),(13,22),(14,25),(15,28),(16,31),(17,34),(18,40),(19,52),(20,67),(21,78)]
  ini0:=[]
  inip:=[22,23,24,25,26,27]
  oc:=[11,12,13,14,15,16,17,18,19,20,21,22,23,24,25,26,27]
  xc:=[0,1,2,3,4,5,6,7,8,9,10]
  sub:=(((0,4),false)::((0,3),false)::((1,4),false)::((1,3),false)::((2,4),false)::((2,3),false)::((3,4),false)::((3,3),true)::((4,4),true)::((4,3),false)::((5,4),false)::((5,3),false)::((6,4),false)::((6,3),false)::((7,4),false)::((7,3),false)::((8,4),false)::((8,3),false)::((9,4),false)::((9,3),false)::((10,4),false)::((10,3),false)::((11,12),false)::((12,12),true)::((13,12),true)::((14,12),true)::((15,12),true)::((16,12),true)::((17,12),true)::((18,12),false)::((19,12),false)::((20,12),false)::((21,12),true)::((22,12),true)::((23,12),true)::((24,12),true)::((25,12),true)::((26,12),true)::((27,12),true)::[])
  subT:=[]
  subB:=((("NoneType","bool"),false)::(("NoneType","int"),false)::(("NoneType","list"),false)::(("NoneType","str"),false)::(("NoneType","tuple"),false)::(("bool","bool"),true)::(("bool","int"),true)::(("bool","list"),false)::(("bool","str"),false)::(("bool","tuple"),false)::(("int","bool"),false)::(("int","int"),true)::(("int","list"),false)::(("int","str"),false)::(("int","tuple"),false)::(("str","bool"),false)::(("str","int"),false)::(("str","list"),false)::(("str","str"),true)::(("str","tuple"),false)::(("list","bool"),false)::(("list","int"),false)::(("list","list"),true)::(("list","str"),false)::(("list","tuple"),false)::(("tuple","bool"),false)::(("tuple","int"),false)::(("tuple","list"),false)::(("tuple","str"),false)::(("tuple","tuple"),true)::(("dict","bool"),false)::(("dict","int"),false)::(("dict","list"),false)::(("dict","str"),false)::(("dict","tuple"),false)::[])
  subO:=[]
/-- what the proofs ask of the addresses -/
structure Ro (K:W.Frag) (R:Rt):Prop where
  hK:R.K=K
  g_BOUND:R.gl "BOUND"=some (.int 1000000000)
  g_MOST_ROWS:R.gl "MOST_ROWS"=some (.int 24)
  g_MOST_CELLS:R.gl "MOST_CELLS"=some (.int 60)
  g_MOST_MEMBERS:R.gl "MOST_MEMBERS"=some (.int 4)
  g_THINGS_OF_A_MEMBER:R.gl "THINGS_OF_A_MEMBER"=some (.int 4)
  g_MOST_HOPPED:R.gl "MOST_HOPPED"=some (.int 24)
  g_NAMES:∃ a,R.gl "NAMES"=some (.ref a)/\∀ H,aX K H a [.str "here",.str "there",.str "left",.str "way",.str "sign",.str "met"]
  g_LEAVES:∃ a,R.gl "LEAVES"=some (.ref a)/\∀ H,aX K H a [.str "open",.str "look",.str "shut"]
end My
set_option Elab.async false
set_option maxHeartbeats 8000000
namespace My
open PySem L2 L3
variable {h a C d dx l:Addr}{m c i r at_:Int}{ns cs':List Int}{n:Nat}{v:V}{t:String}{xs ds ss ys:List V}{α:Type}{ws:List Str}{A:aB}{P:V->Prop}{sp:Sp}{o:Option Int}{rest:St}{te:TE}
section
variable {K:W.Frag}{R:Rt}{k:Nat}{H:Hp}{Q:VK}{E:XK}{O Γ' Δ:List aB}
local macro_rules| `(tactic|walk_at "w")=>`(tactic|conv=>whnf)
local macro_rules| `(tactic|left)=>`(tactic|walk_at "w")
local macro_rules| `(tactic|symm)=>`(tactic|((with_reducible (repeat (first|exact ag.e|apply ag.t)));done))
local macro_rules| `(tactic|ac_rfl)=>`(tactic|((with_reducible (repeat (first|exact a9.e|apply a9.t)));done))
local macro_rules| `(tactic|ac_nf)=>`(tactic|first|(with_reducible exact Sub.refl)|(refine' Sub.cons ?h ?r;(case h=>symm);(case r=>ac_nf))|(with_reducible exact Sub.nil)|(with_reducible apply Sub.drop;(ac_nf)))
local macro_rules| `(tactic|walk_at "sp")=>`(tactic|(refine Sep.sub ?_ (by with_reducible assumption);(ac_nf)))
local macro_rules| `(tactic|grind)=>`(tactic|first|exact Sep.get (by with_reducible assumption) (by symm)|exact Sep.ef (by with_reducible assumption) (by symm))
local macro_rules| `(tactic|walk_at "ar")=>`(tactic|first|lia|omega|decide|exact pc rfl|(unfold rQ;omega)|(unfold Cr;omega)|(unfold Cr;decide)|(unfold rQ;decide)|(simp only[ce,length_set,List.length_replicate];omega))
local macro_rules| `(tactic|walk_at "ls")=>`(tactic|first|(conv=>lhs;simp only[List.set_cons_succ,List.set_cons_zero,Int.reduceToNat])|rfl)
local macro_rules| `(tactic|walk_at "pf")=>`(tactic|first|(conv=>lhs;simp (decide:=true) only [cX,if_true,if_false])|rfl)
local macro_rules| `(tactic|walk_at "st")=>`(tactic|first
  |(with_reducible refine And.intro rfl ?_)
  |(with_reducible refine aK rfl ?_)
  |(with_reducible refine ak rfl ?_)
  |(with_reducible refine GU ?_)
  |((with_reducible refine' aD ?e ?v ?_);(case e=>grind);(case v=>exact rfl))
  |((with_reducible refine' bH ?e ?v ?_);(case e=>grind);(case v=>exact rfl))
  |((with_reducible refine' Ih ?e ?i ?v ?_);(case e=>grind);(case i=>omega);(case v=>exact rfl))
  |(with_reducible refine Hv rfl ?_)
  |(with_reducible refine Gf rfl ?_)
  |((with_reducible refine' iQ ?e ?_);(case e=>grind))
  |((with_reducible refine' vX ?e ?_);(case e=>grind))
  |((with_reducible refine' dS ?s ?r ?j ?x (λH hs=>?_));(case s=>with_reducible assumption);(case r=>ac_rfl);(case j=>exact rfl);(case x=>walk_at "ls"))
  |((with_reducible refine' GS ?s ?l (λp H hs=>?_));(case s=>with_reducible assumption);(case l=>exact pc rfl))
  |((with_reducible refine' G5 ?s ?l (λp H hs=>?_));(case s=>with_reducible assumption);(case l=>exact pc rfl))
  |((with_reducible refine' al_dct ?s (λp H hs=>?_));(case s=>with_reducible assumption))
  |((with_reducible refine' Iq ?e ?_);(case e=>grind))
  |((with_reducible refine' Cu ?e ?_);(case e=>grind))
  |((with_reducible refine' vJ ?s ?e ?f ?l (λp H hs=>?_));(case s=>with_reducible assumption);(case e=>grind);(case f=>grind);(case l=>walk_at "ar"))
  |((with_reducible refine' Jg ?s ?e ?f ?g ?l (λp H hs=>?_));(case s=>with_reducible assumption);(case e=>grind);(case f=>walk_at "ar");(case g=>walk_at "ar");(case l=>walk_at "ar"))
  |((with_reducible refine' LM ?s ?r ?o ?n ?l ?x (λH hs=>?_));(case s=>with_reducible assumption);(case r=>ac_rfl);(case o=>exact rfl);(case n=>exact rfl);(case l=>walk_at "ar");(case x=>walk_at "pf"))
  |((with_reducible refine' cO ?e ?o ?n ?l ?_);(case e=>grind);(case o=>exact rfl);(case n=>exact rfl);(case l=>exact rfl))
  |((with_reducible refine' JV ?e ?o ?n ?l ?_);(case e=>grind);(case o=>exact rfl);(case n=>exact rfl);(case l=>exact rfl))
  |((with_reducible refine' isi_x ?e ?o ?b ?_);(case e=>grind);(case o=>exact rfl);(case b=>exact rfl))
  |((with_reducible refine' isi_xt ?e ?o ?b ?_);(case e=>grind);(case o=>exact rfl);(case b=>exact rfl))
  |((with_reducible refine' cw ?t ?b ?_);(case t=>exact rfl);(case b=>exact rfl))
  |((with_reducible refine' Cv ?a ?b ?_);(case a=>exact rfl);(case b=>exact rfl))
  |((with_reducible refine' vj ?a ?b ?_);(case a=>exact rfl);(case b=>exact rfl))
  |((with_reducible refine' vV ?s ?e (λp H hs=>?_));(case s=>with_reducible assumption);(case e=>grind))
  |((with_reducible refine' Ht ?s ?e (λp H hs=>?_));(case s=>with_reducible assumption);(case e=>grind))
  |(refine And.intro (by walk_at "ar") ?_))
local macro_rules| `(tactic|walk_at "go")=>`(tactic|(walk_at "w";repeat (walk_at "st";walk_at "w")))
local macro_rules| `(tactic|right)=>`(tactic|walk_at "go")
abbrev hand (h:Addr)(m:Int):aB:=ex λx:Addr×List Int×Int×Int×Int×Int=>qd (pt h (.lst [.ref x.1,.int x.2.2.1,.int x.2.2.2.1,.int x.2.2.2.2.1,.int x.2.2.2.2.2])) (qd (pt x.1 (.lst (x.2.1.map V.int)))
 (pu (x.2.1.length<=63/\0<=x.2.2.1/\x.2.2.1<2147483629/\0<=x.2.2.2.1/\0<=x.2.2.2.2.1/\0<=x.2.2.2.2.2/\x.2.2.2.2.2<=m)))
def yg (s:Sep (hand h m::O) H):∃ (c:Addr) (ns:List Int) (fo i r n:Int),Sep (pt h (.lst [.ref c,.int fo,.int i,.int r,.int n])::pt c (.lst (ns.map V.int))::O) H/\ns.length<=63/\0<=fo/\fo<2147483629/\0<=i/\0<=r/\0<=n/\n<=m:=by
 obtain ⟨⟨c,ns,fo,i,r,n⟩,s⟩:=Sep.HV.mp s;have s2:=Sep.star.mp ((Sep.star.mp s).pull (.t .e));have p:=(s2.pull (.t .e)).pure;exact ⟨c,ns,fo,i,r,n,((s2.pull (.t .e)).drop).pull (.t .e),p⟩
def jb {c:Addr}{fo n:Int}(s:Sep (pt h (.lst [.ref c,.int fo,.int i,.int r,.int n])::pt c (.lst (ns.map V.int))::O) H)(p:ns.length<=63/\0<=fo/\fo<2147483629/\0<=i/\0<=r/\0<=n/\n<=m):Sep (hand h m::O) H:=by
 refine Sep.HV.mpr ⟨⟨c,ns,fo,i,r,n⟩,Sep.star.mpr ?_⟩;exact (Sep.star.mpr (((s.pull (.t .e)).pull .e |> λs=>(Sep.tF p s).pull (.t .e)))).pull (.t .e)
def Kg:(10:Int) ^ Int.toNat 18=1000000000000000000:=by decide
def ly {n:Int}(hk:1<=k)(s:Sep (hand h m::O) H)(hm:m<=1099511627776)(hn0:0<n)(hn1:n<1073741824)
  (q:∀ (r:Int) (H':Hp),0<=r->r<n->Sep (hand h (m+1)::O) H'->Q (.int r) H'):ab tab R k sj [.ref h,.int n] H Q E:=by
 obtain ⟨c,ns,fo,i,r,j,hs,h63,f0,f1,i0,r0,k0,k1⟩:=yg s;clear s;have nn:n≠0:=by omega
 refine wc (d:=jO) nofun rfl rfl ?_;right;refine ax (λhr=>?_) (λhr=>?_)
 ·right;rename_i H1 hs1 H2 hs2;exact q _ _ (Int.emod_nonneg _ nn) (Int.emod_lt_of_pos _ hn0) (jb hs2 ⟨h63,f0,f1,i0,Int.ediv_nonneg r0 nofun,by omega,by omega⟩)
 right;refine ax (λhc=>?_) (λhc=>?_)
 ·right;obtain ⟨z,hz⟩:∃ z,kG (ns.map V.int) i=some (.int z):=yN i0 (by rw[ce] at hc;exact hc);refine aD (by grind) hz ?_;right;refine ax (λhz18=>?_) (λhz18=>?_)
  ·rw[Kg] at hz18;right;rename_i H1 hs1 H2 hs2 H3 hs3;exact q _ _ (Int.emod_nonneg _ nn) (Int.emod_lt_of_pos _ hn0) (jb hs3 ⟨h63,f0,f1,by omega,Int.ediv_nonneg nofun nofun,by omega,by omega⟩)
  ·right;rename_i H1 hs1 H2 hs2;exact q _ _ (Int.emod_nonneg _ nn) (Int.emod_lt_of_pos _ hn0) (jb hs2 ⟨h63,f0,f1,by omega,r0,by omega,by omega⟩)
 ·right;rename_i H1 hs1;exact q _ _ (Int.emod_nonneg _ nn) (Int.emod_lt_of_pos _ hn0) (jb hs1 ⟨h63,f0,f1,by omega,r0,by omega,by omega⟩)
def Hl (hk:1<=k)(s:Sep O H)(hS:aR R.K H a (ns.map V.int))(h63:ns.length<=63)(q:∀ h H',Sep (hand h 0::O) H'->Q (.ref h) H'):ab tab R k rf [.ref a] H Q E:=by
 refine wc (d:=jJ) nofun rfl rfl ?_;right;refine Mf s hS (λp H1 hs1=>?_);rw[Jt ns h63] at hs1;right;rename_i c H2 hs2;refine c8 (xs:=ns.map V.int) (λj U H=>∃ (fo:Int) (v:Option V),U=[some (.ref a),some (.ref c),some (.int fo),v]/\0<=fo/\fo<2147483629/\Sep (pt c (.lst (ns.map V.int))::pt p (.lst (ns.map V.int))::O) H) ?_ ?_ ?_ ?_
 ·exact ⟨_,none,rfl,by rw[ce];omega,by rw[ce];omega,hs2⟩
 ·rintro j U H ⟨fo,v,rfl,h0,h2,hs⟩;exact aR.of hs.at
 ·rintro j x U H hx ⟨fo,v,rfl,h0,h2,hs⟩;obtain ⟨z,rfl⟩:=uD hx;right;exact ⟨_,_,rfl,by omega,by omega,hs⟩
 ·rintro U H ⟨fo,v,rfl,h0,h2,hs⟩;right;rename_i l H3 hs3;exact q l _ (jb ((hs3.pull (.t (.t .e))).drop) ⟨h63,h0,h2,by omega,by omega,by omega,by omega⟩)
def ao {n:Int}(s:Sep (hand h m::O) H)(e:m<=n):Sep (hand h n::O) H:=by
 obtain ⟨c,ns,fo,i,r,j,hs,h63,f0,f1,i0,r0,k0,k1⟩:=yg s;exact jb hs ⟨h63,f0,f1,i0,r0,k0,by omega⟩
inductive Kd (H:Hp):V->String->Prop where
 |non:Kd H .non "NoneType"
 |bl (b:Bool):Kd H (.bl b) "bool"
 |int (i:Int):Kd H (.int i) "int"
 |str (x:Str):Kd H (.str x) "str"
 |lst {a:Addr}{xs:List V}(e:H a=some (.lst xs)):Kd H (.ref a) "list"
 |tup {a:Addr}{xs:List V}(e:H a=some (.tup xs)):Kd H (.ref a) "tuple"
 |dct {a:Addr}{kvs:List (Key×V)}(e:H a=some (.dK kvs)):Kd H (.ref a) "dict"
def d4 (h:tyName v H=some t):Kd H v t:=by
 unfold tyName at h
 split at h
 ·cases h;exact .non
 ·cases h;exact .bl _
 ·cases h;exact .int _
 ·cases h;exact .str _
 ·split at h
  ·rename_i e;cases h;exact .lst e
  ·rename_i e;cases h;exact .tup e
  ·rename_i e;cases h;exact .dct e
  ·cases h
 ·cases h
abbrev tW:V->Bool
 | .int _=>true
 |_=>false
abbrev fO:V->Bool
 | .int i=>decide (0<=i)&&decide (i<=1000000000)
 |_=>false
def aI (hk:1<=k)(ht:tyName v H=some t)(q:Q (.bl (tW v)) H):ab tab R k t8 [v] H Q E:=by
 refine wc (d:=kO) nofun rfl rfl ?_;right;cases d4 ht
 all_goals
  refine cw ht rfl ?_;right
  first
   |exact q
   |(refine cw ht rfl ?_;right;exact q)
def cy (ro:Ro K R)(hk:2<=k)(ht:tyName v H=some t)(q:Q (.bl (fO v)) H):ab tab R k pw [v] H Q E:=by
 refine wc (d:=iA) nofun rfl rfl ?_;right;refine aI nofun ht ?_;cases d4 ht
 case int i=>
  right;refine ax (λh0=>?_) (λh0=>?_)
  ·left;simp only[ro.g_BOUND];right;have e:fO (.int i)=decide (i<=1000000000):=by simp[fO,h0]
   rw[e] at q;exact q
  ·right;have e:fO (.int i)=false:=by simp[fO,h0]
   rw[e] at q;exact q
 all_goals
  right;exact q
abbrev bad (xs:List V):Option Int:=if xs.length<1\/60<xs.length then some (-1) else (xs.findIdx? λx=>!fO x).map λn=>(n:Int)
def HA (h:¬ (1<=xs.length/\xs.length<=60)):bad xs=some (-1):=by
 unfold bad;rw[if_pos nofun]
def Fp {j:Nat}{x:V}(h:1<=xs.length/\xs.length<=60)(hx:xs[j]? =some x)(hc:fO x=false)(hb:∀ i y,i<j->xs[i]? =some y->fO y=true):bad xs=some j:=by
 unfold bad;rw[if_neg nofun];have:xs.findIdx? (λx=>!fO x)=some j:=by
  rw[List.findIdx?_eq_some_iff_getElem];obtain ⟨hj,e⟩:=tz.mp hx;refine ⟨hj,by rw[e,hc];rfl,λi hi=>?_⟩;rw[hb i xs[i] hi (li _)]
  decide
 rw[this]
 rfl
def qq (h:1<=xs.length/\xs.length<=60)(hb:∀ (i:Nat) y,xs[i]? =some y->fO y=true):bad xs=none:=by
 unfold bad;rw[if_neg nofun];have:xs.findIdx? (λx=>!fO x)=none:=by
  rw[List.findIdx?_eq_none_iff];intro x hx;obtain ⟨i,hi⟩:=List.mem_iff_getElem?.mp hx;rw[hb i x hi]
  rfl
 rw[this]
 rfl
def BN (h:bad xs=none):1<=xs.length/\xs.length<=60:=by
 unfold bad at h
 split at h
 ·cases h
 ·omega
def vW {x:V}:(sK (Int.toNat (n:Int)) [x]).flatten=sK n x:=by
 rw[sn]
 induction n with
 |zero=>rfl
 |succ n ih=>rw[replicate_succ,flatten_cons,ih];rfl
abbrev ma (C:Addr)(fs:List (Str×V))(x:Addr)(fr:Bool):aB:=ex λd:Addr=>qd (pt x (.exc C (some d) fs fr)) (pt d (.own x))
def jI {x:Addr}{fs:List (Str×V)}{fr:Bool}(s:Sep (pt x (.exc C (some d) fs fr)::pt d (.own x)::O) H):Sep (ma C fs x fr::O) H:=Sep.HV.mpr ⟨d,Sep.star.mpr s⟩
def Ei {x:Addr}{fs:List (Str×V)}{fr:Bool}(s:Sep (ma C fs x fr::O) H):∃ d,Sep (pt x (.exc C (some d) fs fr)::pt d (.own x)::O) H:=let ⟨d,s⟩:=Sep.HV.mp s;⟨d,Sep.star.mp s⟩
def eC {x:Addr}(hk:1<=k)(s:Sep (pt x (.exc (R.cad cC) none [] true)::O) H)(q:∀ d H',Sep (pt x (.exc (R.cad cC) (some d) [("at",v)] true)::pt d (.own x)::O) H'->Q .non H'):ab tab R k cM [.ref x,v] H Q E:=by
 refine wc (d:=cL) nofun rfl rfl ?_;right;refine ⟨_,cC,_,_,_,_,rfl,by grind,rfl,?_⟩;right;refine uH s rfl rfl (λd H hs=>?_);right;exact q d H hs
def Cf (ro:Ro K R)(hk:3<=k)(s:Sep (pt a (.lst xs)::tys xs::O) H)(q0:bad xs=none->∀ H',Sep (pt a (.lst xs)::tys xs::O) H'->Q .non H')
  (q1:∀ at',bad xs=some at'->∀ x H',Sep (ma (R.cad cC) [("at",.int at')] x false::pt a (.lst xs)::tys xs::O) H'->E x H'):ab tab R k mG [.ref a] H Q E:=by
 refine wc (d:=fT) nofun rfl rfl ?_;right;refine cw (t:="list") (xC s.at) rfl ?_;right
 by_cases hl:1<=xs.length/\xs.length<=60
 ·refine aK (decide_eq_true nofun) ?_;left;simp only[ro.g_MOST_CELLS];right;refine aK (c:=decide ((xs.length:Int)<=60)) (decide_eq_true nofun) ?_;right;refine kA (xs:=xs) (λj U H=>∃ y z,U=[some (.ref a),y,z]/\(∀ i w,i<j->xs[i]? =some w->fO w=true)/\Sep (pt a (.lst xs)::tys xs::O) H) ?_ ?_ ?_ ?_
  ·exact ⟨none,none,rfl,λi w h=>absurd h nofun,s⟩
  ·rintro j U H ⟨y,z,rfl,_,hs⟩;exact hs.at
  ·rintro j x T U H hx ⟨y,z,rfl,hb,hs⟩ hT;have hs1:=hs.gZ (xs:=[.int j,x]) hT;left;refine ⟨T,_,rfl,.inl (aX.of hs1.atT),rfl,?_⟩;right;obtain ⟨t,ht⟩:=(hs1.pull (.t (.t .e))).Kn x (cr hx);refine cy ro nofun ht ?_;right;refine bY (λhc=>?_) (λhc=>?_)
   ·right;refine ⟨_,_,rfl,λi w hi hw=>?_,hs1.drop⟩
    by_cases e:i=j
    ·subst e;rw[hx] at hw;cases hw;exact hc
    ·exact hb i w nofun hw
   ·right;intro p hp;refine eC nofun (hs1.drop.new hp) (λd H hs=>?_);right;refine fu hs (by ac_rfl) rfl (λH hs=>?_);exact q1 _ (Fp hl hx hc hb) p H (jI hs)
  ·rintro U H ⟨y,z,rfl,hb,hs⟩;right;exact q0 (qq hl λi w hi=>hb i w (tz.mp hi).1 hi) _ hs
 ·have fin:∀ p,H p=none->ab tab R (k-1) cM [.ref p,.int (-1)] (upd H p (.exc (R.cad cC) none [] true)) (λv H2=>v=.non/\∃ b i dx fs,V.ref p=.ref b/\H2 b=some (.exc (R.cad i) dx fs true)/\tab.xc.contains i=true/\E b (upd H2 b (.exc (R.cad i) dx fs false))) E:=by
   intro p hp;refine eC nofun (s.new hp) (λd H hs=>?_);refine ⟨rfl,?_⟩;refine fu (G:=⟨tab,R,ab tab R 0,true⟩) hs (by ac_rfl) rfl (λH hs=>?_);exact q1 _ (HA hl) p H (jI hs)
  by_cases h1:1<=xs.length
  ·refine aK (decide_eq_true nofun) ?_;left;simp only[ro.g_MOST_CELLS];right;refine ak (c:=decide ((xs.length:Int)<=60)) (decide_eq_false nofun) ?_;right;exact fin
  ·refine ak (decide_eq_false nofun) ?_;right;exact fin
abbrev aP (C p:Addr)(cs ws:List V):aB:=ex λx:Addr×Addr×Addr=>qd (pt p (.ins C x.1 [("contents",.ref x.2.1),("permits",.ref x.2.2)])) (qd (pt x.1 (.own p)) (qd (pt x.2.1 (.lst cs)) (pt x.2.2 (.lst ws))))
def bK {p:Addr}{cs ws:List V}(s:Sep (aP C p cs ws::O) H):∃ dx a b,Sep (pt p (.ins C dx [("contents",.ref a),("permits",.ref b)])::pt dx (.own p)::pt a (.lst cs)::pt b (.lst ws)::O) H:=by
 obtain ⟨⟨dx,a,b⟩,s⟩:=Sep.HV.mp s;refine ⟨dx,a,b,?_⟩;have s1:=Sep.star.mp s;have s2:=Sep.star.mp (s1.pull (.t .e));have s3:=Sep.star.mp (s2.pull (.t .e));exact ((s3.pull (.t (.t .e))).pull (.t (.t (.t .e))))
def dy {p b:Addr}{cs ws:List V}(s:Sep (pt p (.ins C dx [("contents",.ref a),("permits",.ref b)])::pt dx (.own p)::pt a (.lst cs)::pt b (.lst ws)::O) H):Sep (aP C p cs ws::O) H:=by
 refine Sep.HV.mpr ⟨(dx,a,b),Sep.star.mpr ?_⟩;have s3:=Sep.star.mpr ((s.pull (.t (.t (.t .e)))).pull (.t (.t (.t .e))));have s2:=Sep.star.mpr (s3.pull (.t (.t .e)));exact s2.pull (.t .e)
def pI {p:Addr}(ro:Ro K R)(hk:4<=k)(s:Sep (pt p (.ins (R.cad ar) dx [])::pt dx (.own p)::pt a (.lst xs)::tys xs::O) H)
  (q0:bad xs=none->∀ H',Sep (aP (R.cad ar) p xs (sK xs.length (.str "open"))::pt a (.lst xs)::tys xs::O) H'->Q .non H')
  (q1:∀ at',bad xs=some at'->∀ x H',Sep (ma (R.cad cC) [("at",.int at')] x false::pt a (.lst xs)::tys xs::O) H'->E x H'):ab tab R k dA [.ref p,.ref a] H Q E:=by
 refine wc (d:=dw) nofun rfl rfl ?_;right;refine Cf (O:=pt p (.ins (R.cad ar) dx [])::pt dx (.own p)::O) ro nofun (s.sub (by ac_nf)) (λhb H hs=>?_) (λat' hb x H hs=>?_)
 ·have hl:=BN hb;right;rename_i l H1 hs1 H2 hs2 m H3 hs3 w H4 hs4 H5 hs5;rw[vW] at hs5;exact q0 hb _ (dy (hs5.sub (by ac_nf)))
 ·exact q1 at' hb x H (hs.sub (by ac_nf))
def fL {p:Addr}{cs ws:List V}(s:Sep O H)(h:ag (aP C p cs ws) O Δ):∃ dx a b,H p=some (.ins C dx [("contents",.ref a),("permits",.ref b)]):=by
 obtain ⟨dx,a,b,hs⟩:=bK (s.pull h);exact ⟨dx,a,b,hs.at⟩
def tR {p:Addr}{cs ws:List V}(hk:1<=k)(s:Sep (aP (R.cad ar) p cs ws::O) H)(q:Q (.int cs.length) H):ab tab R k gO [.ref p] H Q E:=by
 obtain ⟨dx,a,b,hs⟩:=bK s;refine wc (d:=gU) nofun rfl rfl ?_;right;exact q
def G6 {p:Addr}{cs ws:List V}(hk:1<=k)(s:Sep (aP (R.cad ar) p cs ws::O) H)(q:∀ l H',Sep (pt l (.lst cs)::aP (R.cad ar) p cs ws::O) H'->Q (.ref l) H'):ab tab R k hV [.ref p] H Q E:=by
 obtain ⟨dx,a,b,hs⟩:=bK s;refine wc (d:=hZ) nofun rfl rfl ?_;right;rename_i l H1 hs1;exact q l H1 ((dy (hs1.sub (by ac_nf))).pull (.t .e))
def aw {xs:List α}{x:α}(h0:0<=i)(hx:xs[i.toNat]? =some x):kG xs i=some x:=by
 have h:=L2.n9 hx
 rwa [Int.toNat_of_nonneg h0] at h
abbrev ai (ws:List Str)(d:Str)(i:Int):Bool:=decide (0<=i)&&(decide (i<ws.length)&&(match ws[i.toNat]? with
 |some w=>if w="look" then d =="look" else w =="open"
 |none=>false))
def av {d:Str}(h:ai ws d i=true):0<=i/\i<ws.length:=by
 unfold ai at h;rw[nl,nl,decide_eq_true_eq,decide_eq_true_eq] at h;exact ⟨h.1,h.2.1⟩
def yL {p:Addr}{cs:List V}{d:Str}(hk:2<=k)(s:Sep (aP (R.cad ar) p cs (ws.map V.str)::O) H)(hl:cs.length=ws.length)(q:Q (.bl (ai ws d i)) H):ab tab R k jV [.ref p,.str d,.int i] H Q E:=by
 refine wc (d:=jX) nofun rfl rfl ?_;right;refine ax (λh0=>?_) (λh0=>?_)
 ·obtain ⟨dx,a,b,e⟩:=fL s .e;right;refine ⟨_,ar,_,_,_,rfl,e,rfl,rfl,?_⟩;left;refine tR nofun s ?_;right;refine ax (λh1=>?_) (λh1=>?_)
  ·obtain ⟨dx,a,b,hs⟩:=bK s;have h2:i.toNat<ws.length:=by omega
   have e1:ws[i.toNat]? =some ws[i.toNat]:=li h2;generalize ws[i.toNat]=w at e1;have e2:(ws.map V.str)[i.toNat]? =some (.str w):=by rw[io,e1];rfl
   have e3:ai ws d i=(if w="look" then d =="look" else w =="open"):=by
    unfold ai;rw[e1,decide_eq_true h0,decide_eq_true (by omega:i<ws.length)]
    rfl
   rw[e3] at q;right;refine aD (by grind) (aw h0 e2) ?_;right;refine bY (λhw=>?_) (λhw=>?_)
   ·have hw:w="look":=by simpa [dr] using hw
    rw[if_pos hw] at q;right;exact q
   ·have hw:¬ w="look":=by simpa [dr] using hw
    rw[if_neg hw] at q;right;refine aD (by grind) (aw h0 e2) ?_;right;exact q
  ·have e3:ai ws d i=false:=by
    unfold ai;rw[decide_eq_false (by omega:¬ i<ws.length),Bool.false_and,Bool.and_false]
   rw[e3] at q;right;exact q
 ·have e3:ai ws d i=false:=by
   unfold ai;rw[decide_eq_false h0,Bool.false_and]
  rw[e3] at q;right;exact q
def eO {x:Addr}{w:V}(hk:1<=k)(s:Sep (pt x (.exc (R.cad bb) none [] true)::O) H)(q:∀ d H',Sep (pt x (.exc (R.cad bb) (some d) [("deed",v),("cell",w)] true)::pt d (.own x)::O) H'->Q .non H'):ab tab R k jZ [.ref x,v,w] H Q E:=by
 refine wc (d:=d6) nofun rfl rfl ?_;right;refine ⟨_,bb,_,_,_,_,rfl,by grind,rfl,?_⟩;right;refine uH s rfl rfl (λd H hs=>?_);right;refine BG hs (by ac_rfl) rfl rfl (pc rfl) rfl (λH hs=>?_);right;exact q d H hs
def FD {p:Addr}{cs:List V}(hk:3<=k)(s:Sep (aP (R.cad ar) p cs (ws.map V.str)::O) H)(hl:cs.length=ws.length)(q0:ai ws "look" i=true->∀ x,cs[i.toNat]? =some x->Q x H)
  (q1:ai ws "look" i=false->∀ x H',Sep (ma (R.cad bb) [("deed",.str "look"),("cell",.int i)] x false::aP (R.cad ar) p cs (ws.map V.str)::O) H'->E x H'):ab tab R k g6 [.ref p,.int i] H Q E:=by
 refine wc (d:=iy) nofun rfl rfl ?_;obtain ⟨dx,a,b,e⟩:=fL s .e;right;refine ⟨_,ar,_,_,_,rfl,e,rfl,rfl,?_⟩;left;refine yL nofun s hl ?_;right;refine bY (λhm=>?_) (λhm=>?_)
 ·obtain ⟨h0,h1⟩:=av hm;obtain ⟨dx,a,b,hs⟩:=bK s;have h2:i.toNat<cs.length:=by omega
  have e1:cs[i.toNat]? =some cs[i.toNat]:=li h2;right;refine aD (by grind) (aw h0 e1) ?_;exact q0 hm _ e1
 ·right;intro x hx;refine eO nofun (s.new hx) (λd H hs=>?_);right;refine fu hs (by ac_rfl) rfl (λH hs=>?_);exact q1 hm x H (jI hs)
def IS {p:Addr}{cs:List V}(hk:3<=k)(s:Sep (aP (R.cad ar) p cs (ws.map V.str)::O) H)(hl:cs.length=ws.length)(q0:ai ws "put" i=true->∀ H',Sep (aP (R.cad ar) p (cs.set i.toNat v) (ws.map V.str)::O) H'->Q .non H')
  (q1:ai ws "put" i=false->∀ x H',Sep (ma (R.cad bb) [("deed",.str "put"),("cell",.int i)] x false::aP (R.cad ar) p cs (ws.map V.str)::O) H'->E x H'):ab tab R k jn [.ref p,.int i,v] H Q E:=by
 refine wc (d:=jW) nofun rfl rfl ?_;obtain ⟨dx,a,b,e⟩:=fL s .e;right;refine ⟨_,ar,_,_,_,rfl,e,rfl,rfl,?_⟩;left;refine yL nofun s hl ?_;right;refine bY (λhm=>?_) (λhm=>?_)
 ·obtain ⟨h0,h1⟩:=av hm;obtain ⟨dx,a,b,hs⟩:=bK s;right;refine dS hs (by ac_rfl) (cI h0 nofun) rfl (λH hs=>?_);right;exact q0 hm H (dy hs)
 ·right;intro x hx;refine eO nofun (s.new hx) (λd H hs=>?_);right;refine fu hs (by ac_rfl) rfl (λH hs=>?_);exact q1 hm x H (jI hs)
def kR {x:Addr}{w z:V}(hk:1<=k)(s:Sep (pt x (.exc (R.cad du) none [] true)::O) H)(q:∀ d H',Sep (pt x (.exc (R.cad du) (some d) [("low",v),("behind",w),("word",z)] true)::pt d (.own x)::O) H'->Q .non H'):ab tab R k cQ [.ref x,v,w,z] H Q E:=by
 refine wc (d:=cF) nofun rfl rfl ?_;right;refine ⟨_,du,_,_,_,_,rfl,by grind,rfl,?_⟩;right;refine uH s rfl rfl (λd H hs=>?_);right;refine BG hs (by ac_rfl) rfl rfl (pc rfl) rfl (λH hs=>?_);right;refine BG hs (by ac_rfl) rfl rfl (pc rfl) rfl (λH hs=>?_);right;exact q d H hs
abbrev dH (w:Str):Bool:="open" ==w||("look" ==w||("shut" ==w||false))
abbrev oo:V->Bool
 | .str w=>dH w
 |_=>false
def tM (ro:Ro K R)(hk:1<=k)(ht:tyName v H=some t)(q:Q (.bl (oo v)) H):ab tab R k sZ [v] H Q E:=by
 refine wc (d:=lQ) nofun rfl rfl ?_;right;cases d4 ht
 case str x=>
  right;obtain ⟨a,hg,hs⟩:=ro.g_LEAVES;simp only[hg];right;exact fR (xs:=[.str "open",.str "look",.str "shut"]) (ro.hK▸hs _) rfl rfl q
 all_goals
  refine cw ht rfl ?_;right;exact q
abbrev aV (n:Nat):V->V->Bool
 | .int a,.int b=>decide (0<=a)&&(decide (a<=b)&&decide (b<=n))
 |_,_=>false
def jH {w:V}{u:String}(hk:2<=k)(ht:tyName v H=some t)(hu:tyName w H=some u)(q:Q (.bl (aV n v w)) H):ab tab R k qH [v,w,.int n] H Q E:=by
 refine wc (d:=jq) nofun rfl rfl ?_;right;refine aI nofun ht ?_;cases d4 ht
 case int i=>
  right;refine aI nofun hu ?_;cases d4 hu
  case int j=>
   right;refine ax (λh0=>?_) (λh0=>?_)
   ·right;refine ax (λh1=>?_) (λh1=>?_)
    ·right;have e:aV n (.int i) (.int j)=decide (j<=n):=by simp[aV,h0,h1]
     rw[e] at q;exact q
    ·right;have e:aV n (.int i) (.int j)=false:=by simp[aV,h1]
     rw[e] at q;exact q
   ·right;have e:aV n (.int i) (.int j)=false:=by simp[aV,h0]
    rw[e] at q;exact q
  all_goals
   right;exact q
 all_goals
  right;exact q
abbrev bR (w:Str)(ws:List Str)(lo:Nat):Nat->List Str
 |0=>ws
 |n+1=>(bR w ws lo n).set (lo+n) w
def eK {w:Str}{ws:List Str}{lo:Nat}:∀ n,(bR w ws lo n).length=ws.length
 |0=>rfl
 |n+1=>by rw[bR,length_set,eK n]
def BP {p:Addr}{cs:List V}{v1 v2 v3:V}{t1 t2 t3:String}(ro:Ro K R)(hk:3<=k)(s:Sep (aP (R.cad ar) p cs (ws.map V.str)::O) H)(hl:cs.length=ws.length)(h60:ws.length<=60)
  (ht1:tyName v1 H=some t1) (ht2:tyName v2 H=some t2) (ht3:tyName v3 H=some t3)
  (q0:∀ a b w,v1=.int a->v2=.int b->v3=.str w->aV ws.length v1 v2=true->dH w=true->∀ H',Sep (aP (R.cad ar) p cs ((bR w ws a.toNat (b-a).toNat).map V.str)::O) H'->Q .non H')
  (q1:(aV ws.length v1 v2&&oo v3)=false->∀ x H',Sep (ma (R.cad du) [("low",v1),("behind",v2),("word",v3)] x false::aP (R.cad ar) p cs (ws.map V.str)::O) H'->E x H'):ab tab R k fZ [.ref p,v1,v2,v3] H Q E:=by
 refine wc (d:=fW) nofun rfl rfl ?_;obtain ⟨dx,a,b,e⟩:=fL s .e;right;refine ⟨_,ar,_,_,_,rfl,e,rfl,rfl,?_⟩;left;refine tR nofun s ?_;left;rw[hl];refine jH nofun ht1 ht2 ?_;right;have fin:(aV ws.length v1 v2&&oo v3)=false->∀ x,H x=none->ab tab R (k-1) cQ [.ref x,v1,v2,v3] (upd H x (.exc (R.cad du) none [] true)) (λv H2=>v=.non/\∃ b i dx fs,V.ref x=.ref b/\H2 b=some (.exc (R.cad i) dx fs true)/\tab.xc.contains i=true/\E b (upd H2 b (.exc (R.cad i) dx fs false))) E:=by
  intro hb x hx;refine kR nofun (s.new hx) (λd H hs=>?_);refine ⟨rfl,?_⟩;refine fu (G:=⟨tab,R,ab tab R 0,true⟩) hs (by ac_rfl) rfl (λH hs=>?_);exact q1 hb x H (jI hs)
 refine bY (λhw=>?_) (λhw=>?_)
 ·right;refine tM ro nofun ht3 ?_;right;refine bY (λhv=>?_) (λhv=>?_)
  ·obtain ⟨i,j,rfl,rfl⟩:∃ i j,v1=.int i/\v2=.int j:=by
    unfold aV at hw
    split at hw
    ·exact ⟨_,_,rfl,rfl⟩
    ·cases hw
   obtain ⟨w,rfl⟩:∃ w,v3=.str w:=by
    unfold oo at hv
    split at hv
    ·exact ⟨_,rfl⟩
    ·cases hv
   have hw':0<=i/\i<=j/\j<=ws.length:=by simpa [aV] using hw
   right;refine dM (λn U H=>∃ y,U=[some (.ref p),some (.int i),some (.int j),some (.str w),y]/\Sep (aP (R.cad ar) p cs ((bR w ws i.toNat n).map V.str)::O) H) ?_ ?_ ?_
   ·exact ⟨none,rfl,s⟩
   ·rintro n U H hn ⟨y,rfl,hs⟩;obtain ⟨dx,a,b,hs⟩:=bK hs;right;refine dS hs (by ac_rfl) (cI nofun (by rw[ce,eK];omega)) rfl (λH hs=>?_);right;refine ⟨_,rfl,?_⟩;have e:((bR w ws i.toNat n).map V.str).set (i+(n:Int)).toNat (.str w)=(bR w ws i.toNat (n+1)).map V.str:=by
     rw[bR,List.map_set,show (i+(n:Int)).toNat=i.toNat+n by omega]
    rw[e] at hs;exact dy hs
   ·rintro U H ⟨y,rfl,hs⟩;right;exact q0 i j w rfl rfl rfl hw hv H hs
  ·right;exact fin (by rw[hv,Bool.and_false])
 ·right;exact fin (by rw[hw,Bool.false_and])
def iN:(10:Int) ^ Int.toNat 9=1000000000:=by decide
local macro_rules| `(tactic|walk_at "dr")=>`(tactic|(refine' ly ?k ?s ?m ?a ?b (λr H hr0 hr1 hs=>?_);(case s=>walk_at "sp");(case k=>exact nofun);(case m=>omega);(case a=>walk_at "ar");(case b=>walk_at "ar")))
local macro_rules| `(tactic|walk_at "gd")=>`(tactic|(walk_at "w";repeat (first|(walk_at "st";walk_at "w")|(walk_at "dr";walk_at "w"))))
abbrev cZ (ns:List Int):Prop:=∀ i ∈ ns,0<=i/\i<=1000000000
def ue (h:cZ ns)(h0:0<=i)(h1:i<=1000000000):cZ (ns++[i]):=λj hj=>by
 rcases mem_append.mp hj with hj|hj
 ·exact h j hj
 ·rw[mem_singleton.mp hj];exact ⟨h0,h1⟩
def wQ (h:cZ ns)(h0:0<=i)(h1:i<=1000000000):cZ (ns.set n i):=λj hj=>by
 rcases mem_or_eq_of_mem_set hj with hj|rfl
 ·exact h j hj
 ·exact ⟨h0,h1⟩
abbrev bx (f:α->List aB):aB:=⟨λH D=>∃ x,bD (f x) H D,λH H' D ⟨x,h⟩ k t=>⟨x,bD.st h k t⟩,λH D D' ⟨x,h⟩ k=>⟨x,bD.up h k⟩⟩
def iJ:∀ {O Δ:List aB}{D:Addr->Prop},bD (O++Δ) H D ↔ ∃ D1 D2:Addr->Prop,(∀ a,D1 a->D a)/\(∀ a,D2 a->D a)/\(∀ a,D1 a->D2 a->False)/\bD O H D1/\bD Δ H D2
 | [],Δ,D=>⟨λh=>⟨λ_=>False,D,λ_ z=>z.elim,λ_ z=>z,λ_ z _=>z,True.intro,h⟩,λ⟨_,_,_,s2,_,_,h⟩=>bD.up h s2⟩
 |A::O,Δ,D=>by
  constructor
  ·rintro ⟨E1,E2,s1,s2,dj,hA,h⟩;obtain ⟨F1,F2,t1,t2,dk,h1,h2⟩:=iJ.mp h;refine ⟨λa=>E1 a\/F1 a,F2,λa z=>z.elim (s1 a) λz=>s2 a (t1 a z),λa z=>s2 a (t2 a z),λa z w=>z.elim (λz=>dj a z (t2 a w)) λz=>dk a z w,?_,h2⟩;exact ⟨E1,F1,λa z=>.inl z,λa z=>.inr z,λa z w=>dj a z (t1 a w),hA,h1⟩
  ·rintro ⟨D1,D2,s1,s2,dj,⟨E1,E2,t1,t2,dk,hA,h1⟩,h2⟩;refine ⟨E1,λa=>E2 a\/D2 a,λa z=>s1 a (t1 a z),λa z=>z.elim (λz=>s1 a (t2 a z)) (s2 a),λa z w=>w.elim (dk a z) λw=>dj a (t1 a z) w,hA,?_⟩;exact iJ.mpr ⟨E2,D2,λa z=>.inl z,λa z=>.inr z,λa z w=>dj a (t2 a z) w,h1,h2⟩
def iq {f:α->List aB}(s:Sep (bx f::O) H):∃ x,Sep (f x++O) H:=by
 obtain ⟨D,k,D1,D2,s1,s2,dj,⟨x,h1⟩,h2⟩:=s;exact ⟨x,D,k,iJ.mpr ⟨D1,D2,s1,s2,dj,h1,h2⟩⟩
def fQ {f:α->List aB}(x:α)(s:Sep (f x++O) H):Sep (bx f::O) H:=by
 obtain ⟨D,k,h⟩:=s;obtain ⟨D1,D2,s1,s2,dj,h1,h2⟩:=iJ.mp h;exact ⟨D,k,D1,D2,s1,s2,dj,⟨x,h1⟩,h2⟩
abbrev qe:List Str:=["here","there","left","way","sign","met"]
abbrev wK:List Key:=[.inr "here",.inr "there",.inr "left",.inr "way",.inr "sign",.inr "met"]
abbrev fm:V->Bool
 | .int i=>decide (-1000000000<=i)&&decide (i<=1000000000)
 |_=>false
abbrev md (a b:Int):V->Bool
 | .int i=>i ==a||i ==b
 |_=>false
abbrev bB:Nat->V->Bool
 |0,v=>fm v
 |1,v=>fm v
 |3,v=>md 1 (-1) v
 |5,v=>md 0 1 v
 |_,v=>fO v
def eZ (ro:Ro K R)(hk:2<=k)(ht:tyName v H=some t)(q:Q (.bl (fm v)) H):ab tab R k rh [v] H Q E:=by
 refine wc (d:=jl) nofun rfl rfl ?_;right;refine aI nofun ht ?_;cases d4 ht
 case int i=>
  left;refine aK rfl ?_;left;simp only[ro.g_BOUND];right;refine ax (λh0=>?_) (λh0=>?_)
  ·left;simp only[ro.g_BOUND];right;have e:fm (.int i)=decide (i<=1000000000):=by simp[fm,h0]
   rw[e] at q;exact q
  ·right;have e:fm (.int i)=false:=by simp[fm,h0]
   rw[e] at q;exact q
 all_goals
  right;exact q
def kF {j:Nat}{x:Str}(h:qe[j]? =some x):(j=0/\x="here")\/(j=1/\x="there")\/(j=2/\x="left")\/(j=3/\x="way")\/(j=4/\x="sign")\/(j=5/\x="met"):=by
 rcases j with _|_|_|_|_|_|j
 ·cases h;exact .inl ⟨rfl,rfl⟩
 ·cases h;exact .inr (.inl ⟨rfl,rfl⟩)
 ·cases h;exact .inr (.inr (.inl ⟨rfl,rfl⟩))
 ·cases h;exact .inr (.inr (.inr (.inl ⟨rfl,rfl⟩)))
 ·cases h;exact .inr (.inr (.inr (.inr (.inl ⟨rfl,rfl⟩))))
 ·cases h;exact .inr (.inr (.inr (.inr (.inr ⟨rfl,rfl⟩))))
 ·exact absurd h (by simp[qe])
local macro_rules| `(tactic|walk_at "sc")=>`(tactic|first|(refine aK (by decide+kernel) ?_;walk_at "go")|(refine ak (by decide+kernel) ?_;walk_at "go"))
def uB {j:Nat}{x:Str}(ro:Ro K R)(hk:3<=k)(hj:qe[j]? =some x)(ht:tyName v H=some t)(q:Q (.bl (bB j v)) H):ab tab R k Gj [.str x,v] H Q E:=by
 refine wc (d:=A7) nofun rfl rfl ?_;rcases kF hj with ⟨rfl,rfl⟩|⟨rfl,rfl⟩|⟨rfl,rfl⟩|⟨rfl,rfl⟩|⟨rfl,rfl⟩|⟨rfl,rfl⟩
 all_goals right
 all_goals repeat walk_at "sc"
 ·exact eZ ro nofun ht q
 ·exact eZ ro nofun ht q
 ·exact cy ro nofun ht q
 ·refine aI nofun ht ?_;cases d4 ht
  case int i=>
   right;refine az (λh0=>?_) (λh0=>?_)
   ·right;have e:bB 3 (.int i)=true:=by simp[bB,md,h0]
    rw[e] at q;exact q
   ·right;have e:bB 3 (.int i)=(i == -1):=by simp[bB,md,h0]
    rw[e] at q;exact q
  all_goals
   right;exact q
 ·exact cy ro nofun ht q
 ·refine aI nofun ht ?_;cases d4 ht
  case int i=>
   right;refine az (λh0=>?_) (λh0=>?_)
   ·right;have e:bB 5 (.int i)=true:=by simp[bB,md,h0]
    rw[e] at q;exact q
   ·right;have e:bB 5 (.int i)=(i ==1):=by simp[bB,md,h0]
    rw[e] at q;exact q
  all_goals
   right;exact q
abbrev boxes (R:Rt)(b:Addr)(ns:List Int):aB:=bx λx:Addr×Addr=>[pt b (.ins (R.cad cb) x.1 [("numbers",.ref x.2)]),pt x.1 (.own b),pt x.2 (.dK (wK.zip (ns.map V.int))),pu (ns.length=6)]
def ie {b:Addr}(s:Sep (boxes R b ns::O) H):∃ dx d,ns.length=6/\Sep (pt b (.ins (R.cad cb) dx [("numbers",.ref d)])::pt dx (.own b)::pt d (.dK (wK.zip (ns.map V.int)))::O) H:=by
 obtain ⟨⟨dx,d⟩,s⟩:=iq s;have s:Sep (pt b (.ins (R.cad cb) dx [("numbers",.ref d)])::pt dx (.own b)::pt d (.dK (wK.zip (ns.map V.int)))::pu (ns.length=6)::O) H:=s;have p:=(s.pull (.t (.t (.t .e)))).pure;exact ⟨dx,d,p,(s.pull (.t (.t (.t .e)))).drop⟩
def ip {b:Addr}(hn:ns.length=6)(s:Sep (pt b (.ins (R.cad cb) dx [("numbers",.ref d)])::pt dx (.own b)::pt d (.dK (wK.zip (ns.map V.int)))::O) H):Sep (boxes R b ns::O) H:=
 fQ (dx,d) (Sep.push (.t (.t (.t .e))) (Sep.tF hn s))
def six {ns:List α}(h:ns.length=6):∃ a b c d e f,ns=[a,b,c,d,e,f]:=by
 match ns,h with
 | [a,b,c,d,e,f],_=>exact ⟨a,b,c,d,e,f,rfl⟩
def vK {j:Nat}{x:Str}(hn:ns.length=6)(hj:qe[j]? =some x):∃ i,ns[j]? =some i/\je (wK.zip (ns.map V.int)) (.inr x)=some (.int i):=by
 obtain ⟨a,b,c,d,e,f,rfl⟩:=six hn;rcases kF hj with ⟨rfl,rfl⟩|⟨rfl,rfl⟩|⟨rfl,rfl⟩|⟨rfl,rfl⟩|⟨rfl,rfl⟩|⟨rfl,rfl⟩<;>exact ⟨_,rfl,rfl⟩
def C8 {b:Addr}(ro:Ro K R)(hk:1<=k)(s:Sep (boxes R b ns::O) H)(q:∀ t H',Sep (tu t (ns.map V.int)::boxes R b ns::O) H'->Q (.ref t) H'):ab tab R k gY [.ref b] H Q E:=by
 obtain ⟨dx,d,hn,s⟩:=ie s;refine wc (d:=il) nofun rfl rfl ?_;right;obtain ⟨a,hg,hS⟩:=ro.g_NAMES;simp only[hg];rw[<-ro.hK] at hS;right;refine IZ (hS H) ?_;refine Fd (xs:=qe.map V.str) (pc rfl) (λD ys H=>ys=(ns.map V.int).take ys.length/\Sep (pt D (.lst ys)::pt b (.ins (R.cad cb) dx [("numbers",.ref d)])::pt dx (.own b)::pt d (.dK (wK.zip (ns.map V.int)))::O) H) ?_ ?_ ?_ ?_
 ·intro D ys H _;exact hS H
 ·intro D hD;exact ⟨rfl,s.new hD⟩
 ·rintro D ys x H' hx ⟨e,hs⟩;rw[io] at hx;obtain ⟨z,hz,rfl⟩:=nw.mp hx;obtain ⟨i,h1,h2⟩:=vK hn hz;right;refine pd (k:=.inr z) (by grind) h2 ?_;have hlt:=(tz.mp h1).1;refine oE.mk (by grind) nofun ⟨?_,?_⟩
  ·have e2:(ns.map V.int)[ys.length]? =some (.int i):=by rw[io,h1];rfl
   rw[ci,ge,take_succ,e2]
   conv=>lhs;rw[e]
   rfl
  ·exact hs.set rfl
 ·rintro D ys H' hl ⟨e,hs⟩;have e2:ys=ns.map V.int:=by
   rw[e,hl];rw[take_of_length_le];simp[qe,hn]
  subst e2;right;refine Hr hs (by grind) (λp H hs=>?_);right;refine q p H ?_;refine Sep.pull (.t .e) (ip (dx:=dx) (d:=d) hn ?_);walk_at "sp"
def uX {x:Addr}(ro:Ro K R)(hk:4<=k)(hn:ns.length=6)(hf:∀ (j:Nat) i,ns[j]? =some i->bB j (.int i)=true) (s:Sep (pt x (.ins (R.cad cb) dx [])::pt dx (.own x)::O) H) (q:∀ H',Sep (boxes R x ns::O) H'->Q .non H'):
  ab tab R k bV (.ref x::ns.map V.int) H Q E:=by
 obtain ⟨a0,a1,a2,a3,a4,a5,rfl⟩:=six hn;refine wc (d:=di) nofun rfl rfl ?_;right;rename_i p H1 hs1;obtain ⟨na,hg,hS⟩:=ro.g_NAMES;simp only[hg];rw[<-ro.hK] at hS;right;refine D5 (tp1:=true) (tp2:=true) (xs:=qe.map V.str) (ys:=[V.int a0,V.int a1,V.int a2,V.int a3,V.int a4,V.int a5]) (hS _) (aX.of hs1.at) ?_;refine pe (xs:=qe.map V.str) (ys:=[V.int a0,V.int a1,V.int a2,V.int a3,V.int a4,V.int a5]) (λj U H=>∃ v w,U=[some (.ref x),some (.int a0),some (.int a1),some (.int a2),some (.int a3),some (.int a4),some (.int a5),some (.ref p),v,w]/\Sep (pt p (.tup [.int a0,.int a1,.int a2,.int a3,.int a4,.int a5])::pt x (.ins (R.cad cb) dx [])::pt dx (.own x)::O) H) rfl ?_ ?_ ?_ ?_
 ·exact ⟨none,none,rfl,hs1⟩
 ·rintro j U H ⟨v,w,rfl,hs⟩;exact ⟨hS _,aX.of hs.at⟩
 ·rintro j y z T U H hy hz ⟨v,w,rfl,hs⟩ hT;rw[io] at hy;obtain ⟨nm,hnm,rfl⟩:=nw.mp hy;obtain ⟨i,hi,rfl⟩:∃ i,([a0,a1,a2,a3,a4,a5]:List Int)[j]? =some i/\z=.int i:=by
   have hz':(([a0,a1,a2,a3,a4,a5]:List Int).map V.int)[j]? =some z:=hz;rw[io] at hz';obtain ⟨i,h1,h2⟩:=nw.mp hz';exact ⟨i,h1,h2.symm⟩
  have hs2:=hs.gZ (xs:=[.str nm,.int i]) hT;left;refine ⟨T,_,rfl,.inl (aX.of hs2.atT),rfl,?_⟩;right;refine uB ro nofun hnm rfl ?_;rw[hf j i hi];right;exact ⟨_,_,rfl,hs2.drop⟩
 ·rintro U H ⟨v,w,rfl,hs⟩;right;simp only[hg];right;refine Im (tp1:=true) (tp2:=true) (ks:=wK) (ys:=([a0,a1,a2,a3,a4,a5]:List Int).map V.int) hs (hS _) (aX.of hs.at) (by decide+kernel) rfl (pc rfl) (λd H2 hs2=>?_);right;rename_i H3 hs3;refine q _ ?_;refine ip (dx:=dx) (d:=d) rfl ?_;walk_at "sp"
def yu {j:Nat}{x:Str}(ro:Ro K R)(hk:1<=k)(hj:qe[j]? =some x)(q:Q (.bl true) H):ab tab R k rP [.str x] H Q E:=by
 refine wc (d:=lp) nofun rfl rfl ?_;right;obtain ⟨a,hg,hs⟩:=ro.g_NAMES;simp only[hg];have hs':=hs H;rw[<-ro.hK] at hs';right;refine fR hs' rfl rfl ?_;rcases kF hj with ⟨rfl,rfl⟩|⟨rfl,rfl⟩|⟨rfl,rfl⟩|⟨rfl,rfl⟩|⟨rfl,rfl⟩|⟨rfl,rfl⟩<;>exact q
def dO {b:Addr}{j:Nat}{x:Str}(ro:Ro K R)(hk:2<=k)(s:Sep (boxes R b ns::O) H)(hj:qe[j]? =some x)(hi:ns[j]? =some i)(q:Q (.int i) H):ab tab R k aH [.ref b,.str x] H Q E:=by
 obtain ⟨dx,d,hn,s⟩:=ie s;refine wc (d:=gi) nofun rfl rfl ?_;right;refine yu ro nofun hj ?_;right;obtain ⟨i',h1,h2⟩:=vK hn hj;rw[hi] at h1;cases h1;exact pd (k:=.inr x) (by grind) h2 q
def wA {b:Addr}(ro:Ro K R)(hk:5<=k)(s:Sep (boxes R b ns::O) H)(q:∀ c H',Sep (boxes R c ns::boxes R b ns::O) H'->Q (.ref c) H'):ab tab R k eJ [.ref b] H Q E:=by
 refine wc (d:=eY) nofun rfl rfl ?_;right;intro x dx h1 h2 h3;refine uX (ns:=[0,0,0,1,0,0]) ro nofun rfl ?_ (hR s h1 h2 h3) (λH1 hs1=>?_)
 ·intro j i hi;rcases j with _|_|_|_|_|_|j<;>first|(cases hi;rfl)|exact absurd hi (by simp)
 refine ⟨rfl,?_⟩;obtain ⟨dx1,d1,hn1,hs2⟩:=ie hs1;obtain ⟨dx2,d2,hn2,hs3⟩:=ie (hs2.pull (.t (.t (.t .e))));right;refine uJ hs3 (by grind) (λd3 H3 hs4=>?_);right;rename_i H4 hs5;refine q _ _ ?_;refine ip (dx:=dx1) (d:=d3) hn2 ?_;refine Sep.push (.t (.t (.t .e))) (ip (dx:=dx2) (d:=d2) hn2 ?_);walk_at "sp"
def so (hk:1<=k)(ht:tyName v H=some t)(q:Q (.bl (tW v)) H):ab tab R k p6 [v] H Q E:=by
 refine wc (d:=gS) nofun rfl rfl ?_;right;cases d4 ht
 all_goals
  refine cw ht rfl ?_;right
  first
   |exact q
   |(refine cw ht rfl ?_;right;exact q)
def hE {x:Addr}{w:V}(hk:1<=k)(s:Sep (pt x (.exc (R.cad cx) none [] true)::O) H)(q:∀ d H',Sep (pt x (.exc (R.cad cx) (some d) [("box",v),("number",w)] true)::pt d (.own x)::O) H'->Q .non H'):ab tab R k i9 [.ref x,v,w] H Q E:=by
 refine wc (d:=dB) nofun rfl rfl ?_;right;refine ⟨_,cx,_,_,_,_,rfl,by grind,rfl,?_⟩;right;refine uH s rfl rfl (λd H hs=>?_);right;refine BG hs (by ac_rfl) rfl rfl (pc rfl) rfl (λH hs=>?_);right;exact q d H hs
abbrev Kj:V->Bool
 | .str x=>CG (.str x) (qe.map V.str)
 |_=>false
def pC (ro:Ro K R)(hk:1<=k)(ht:tyName v H=some t)(q:Q (.bl (Kj v)) H):ab tab R k rP [v] H Q E:=by
 refine wc (d:=lp) nofun rfl rfl ?_;right;obtain ⟨a,hg,hs⟩:=ro.g_NAMES;have hs':=hs H;rw[<-ro.hK] at hs';cases d4 ht
 case str x=>
  refine cw ht rfl ?_;left;refine aK rfl ?_;left;simp only[hg];right;exact fR hs' rfl rfl q
 all_goals
  refine cw ht rfl ?_;right;exact q
def uz {j:Nat}{x:Str}(hj:qe[j]? =some x):Kj (.str x)=true:=by
 rcases kF hj with ⟨rfl,rfl⟩|⟨rfl,rfl⟩|⟨rfl,rfl⟩|⟨rfl,rfl⟩|⟨rfl,rfl⟩|⟨rfl,rfl⟩<;>rfl
def vG {j:Nat}{x:Str}(hn:ns.length=6)(hj:qe[j]? =some x):putK (wK.zip (ns.map V.int)) (.inr x) (.int i)=wK.zip ((ns.set j i).map V.int):=by
 obtain ⟨a,b,c,d,e,f,rfl⟩:=six hn;rcases kF hj with ⟨rfl,rfl⟩|⟨rfl,rfl⟩|⟨rfl,rfl⟩|⟨rfl,rfl⟩|⟨rfl,rfl⟩|⟨rfl,rfl⟩<;>rfl
def FK {b:Addr}{j:Nat}{x:Str}(ro:Ro K R)(hk:4<=k)(s:Sep (boxes R b ns::O) H)(hj:qe[j]? =some x)(hf:bB j (.int i)=true)(q:∀ H',Sep (boxes R b (ns.set j i)::O) H'->Q .non H'):ab tab R k aG [.ref b,.str x,.int i] H Q E:=by
 obtain ⟨dx,d,hn,s⟩:=ie s;refine wc (d:=dF) nofun rfl rfl ?_;right;refine pC (t:="str") ro nofun rfl ?_;rw[uz hj];right;refine uB ro nofun hj rfl ?_;rw[hf];right;refine uV (k:=.inr x) (kvs':=wK.zip ((ns.set j i).map V.int)) s (by ac_rfl) (by rw[length_zip,ce,hn];decide) (vG hn hj) (λH1 hs1=>?_);right;exact q H1 (ip (by rw[length_set];exact hn) hs1)
def sM {b:Addr}{j:Nat}{x:Str}(ro:Ro K R)(hk:4<=k)(s:Sep (boxes R b ns::O) H)(hj:qe[j]? =some x)(ht:tyName v H=some t)(hf:bB j v=false)(q:∀ e d H',Sep (pt e (.exc (R.cad cx) (some d) [("box",.str x),("number",v)] false)::pt d (.own e)::boxes R b ns::O) H'->E e H'):ab tab R k aG [.ref b,.str x,v] H Q E:=by
 refine wc (d:=dF) nofun rfl rfl ?_;right;refine pC (t:="str") ro nofun rfl ?_;rw[uz hj];right;refine uB ro nofun hj ht ?_;rw[hf];right;intro e he;refine hE nofun (s.new he) (λd H3 hs3=>⟨rfl,?_⟩);exact fu (G:=⟨tab,R,ab tab R (k-1),true⟩) hs3 .e rfl (λH4 hs4=>q e d H4 hs4)
abbrev Ob (R:Rt)(A:aB)(b:Addr)(i:Nat)(fl:List Str):Prop:=∀ H D,A.p H D->∃ dx fs,H b=some (.ins (R.cad i) dx fs)/\fs.map (·.1)=fl
def vB {m:Str}:∀ {fs:List (Str×V)},(fs.map (·.1)).all (λx=>!(m ==x))=true->fs.lookup m=none
 | [],_=>rfl
 |(x,v)::fs,h=>by
  simp only[map_cons,all_cons,nl] at h;have h1:(m ==x)=false:=by simpa using h.1
  rw[lookup_cons,h1];exact vB h.2
def ae {G:Gx}{b:Addr}{i f:Nat}{fl:List Str}{m:Str}{X:Nat->Prop}(o:Ob G.R A b i fl)(s:Sep O H)(p:ag A O Δ)(hm:fl.all (λx=>!(m ==x))=true) (hf:G.T.me.lookup (i,m)=some f) (h:X f):
  ∃ p' i' dx fs f',V.ref b=.ref p'/\H p'=some (.ins (G.R.cad i') dx fs)/\fs.lookup m=none/\G.T.me.lookup (i',m)=some f'/\X f':=by
 obtain ⟨D,k,D1,D2,s1,s2,dj,h1,h2⟩:=s.pull p;obtain ⟨dx,fs,e1,e2⟩:=o H D1 h1;exact ⟨b,i,dx,fs,f,rfl,e1,vB (e2▸hm),hf,h⟩
structure Bx where
 h:Int
 t:Int
 l:Int
 w:Int
 s:Int
 m:Int
abbrev Bx.ls (x:Bx):List Int:=[x.h,x.t,x.l,x.w,x.s,x.m]
abbrev Bx.ok (x:Bx):Prop:=(-1000000000<=x.h/\x.h<=1000000000)/\(-1000000000<=x.t/\x.t<=1000000000)/\(0<=x.l/\x.l<=1000000000)/\(x.w=1\/x.w= -1)/\(0<=x.s/\x.s<=1000000000)/\(x.m=0\/x.m=1)
abbrev aJ (R:Rt)(b:Addr)(x:Bx):aB:=bx λ_:Unit=>[boxes R b x.ls,pu x.ok]
variable {x:Bx}
def d5 {b:Addr}(s:Sep (aJ R b x::O) H):x.ok/\Sep (boxes R b x.ls::O) H:=by
 obtain ⟨_,s⟩:=iq s;have s:Sep (boxes R b x.ls::pu x.ok::O) H:=s;exact ⟨(s.pull (.t .e)).pure,(s.pull (.t .e)).drop⟩
def nc {b:Addr}(hx:x.ok)(s:Sep (boxes R b x.ls::O) H):Sep (aJ R b x::O) H:=fQ () (Sep.push (.t .e) (Sep.tF hx s))
def lC {b:Addr}(s:Sep O H)(p:ag (aJ R b x) O Δ):x.ok:=(d5 (s.pull p)).1
def bj {b:Addr}:Ob R (aJ R b x) b cb ["numbers"]:=by
 rintro H D ⟨_,D1,D2,_,_,_,⟨⟨dx,d⟩,E1,E2,_,_,_,⟨_,h⟩,_⟩,_⟩;exact ⟨dx,_,h,rfl⟩
def HD (h:x.ok):∀ (j:Nat) i,x.ls[j]? =some i->bB j (.int i)=true:=by
 obtain ⟨⟨h1,h2⟩,⟨h3,h4⟩,⟨h5,h6⟩,h7,⟨h8,h9⟩,h10⟩:=h;intro j i hi;rcases j with _|_|_|_|_|_|j
 ·cases hi;simp[bB,fm,h1,h2]
 ·cases hi;simp[bB,fm,h3,h4]
 ·cases hi;simp[bB,fO,h5,h6]
 ·cases hi;rcases h7 with e|e<;>rw[e]<;>rfl
 ·cases hi;simp[bB,fO,h8,h9]
 ·cases hi;rcases h10 with e|e<;>rw[e]<;>rfl
 ·exact absurd hi (by simp[Bx.ls])
def vA (h: -1000000000<=i/\i<=1000000000):fm (.int i)=true:=by simp[fm,h.1,h.2]
def vt (h:0<=i/\i<=1000000000):fO (.int i)=true:=by simp[fO,h.1,h.2]
section
variable {b:Addr}{h t l w s m i:Int}
def Ke (ro:Ro K R)(hk:2<=k)(z:Sep O H)(p:ag (aJ R b ⟨h,t,l,w,s,m⟩) O Δ)(q:Q (.int h) H):ab tab R k aH [.ref b,.str "here"] H Q E:=dO (j:=0) ro hk (d5 (z.pull p)).2 rfl rfl q
def Jz (ro:Ro K R)(hk:2<=k)(z:Sep O H)(p:ag (aJ R b ⟨h,t,l,w,s,m⟩) O Δ)(q:Q (.int t) H):ab tab R k aH [.ref b,.str "there"] H Q E:=dO (j:=1) ro hk (d5 (z.pull p)).2 rfl rfl q
def F0 (ro:Ro K R)(hk:2<=k)(z:Sep O H)(p:ag (aJ R b ⟨h,t,l,w,s,m⟩) O Δ)(q:Q (.int l) H):ab tab R k aH [.ref b,.str "left"] H Q E:=dO (j:=2) ro hk (d5 (z.pull p)).2 rfl rfl q
def Gi (ro:Ro K R)(hk:2<=k)(z:Sep O H)(p:ag (aJ R b ⟨h,t,l,w,s,m⟩) O Δ)(q:Q (.int w) H):ab tab R k aH [.ref b,.str "way"] H Q E:=dO (j:=3) ro hk (d5 (z.pull p)).2 rfl rfl q
def LB (ro:Ro K R)(hk:2<=k)(z:Sep O H)(p:ag (aJ R b ⟨h,t,l,w,s,m⟩) O Δ)(q:Q (.int s) H):ab tab R k aH [.ref b,.str "sign"] H Q E:=dO (j:=4) ro hk (d5 (z.pull p)).2 rfl rfl q
def JM (ro:Ro K R)(hk:2<=k)(z:Sep O H)(p:ag (aJ R b ⟨h,t,l,w,s,m⟩) O Δ)(q:Q (.int m) H):ab tab R k aH [.ref b,.str "met"] H Q E:=dO (j:=5) ro hk (d5 (z.pull p)).2 rfl rfl q
def qQ {y:Bx}{j:Nat}{nm:Str}(ro:Ro K R)(hk:4<=k)(z:Sep O H)(r:a9 (aJ R b x) (aJ R b y) O Γ')(hj:qe[j]? =some nm)(hf:bB j (.int i)=true)(hx:x.ls.set j i=y.ls)(hy:x.ok->y.ok)(q:∀ H',Sep Γ' H'->Q .non H'):ab tab R k aG [.ref b,.str nm,.int i] H Q E:=by
 obtain ⟨Δ,h1,h2⟩:=r.bO;obtain ⟨hok,z2⟩:=d5 (z.pull h1);refine FK ro hk z2 hj hf (λH' z3=>q H' (Sep.push h2 (nc (hy hok) ?_)));rw[hx] at z3;exact z3
def JL (ro:Ro K R)(hk:4<=k)(z:Sep O H)(r:a9 (aJ R b ⟨h,t,l,w,s,m⟩) (aJ R b ⟨i,t,l,w,s,m⟩) O Γ')(hi: -1000000000<=i/\i<=1000000000)(q:∀ H',Sep Γ' H'->Q .non H'):ab tab R k aG [.ref b,.str "here",.int i] H Q E:=
 qQ (j:=0) ro hk z r rfl (vA hi) rfl (λ⟨_,a⟩=>⟨hi,a⟩) q
def Ir (ro:Ro K R)(hk:4<=k)(z:Sep O H)(r:a9 (aJ R b ⟨h,t,l,w,s,m⟩) (aJ R b ⟨h,i,l,w,s,m⟩) O Γ')(hi: -1000000000<=i/\i<=1000000000)(q:∀ H',Sep Γ' H'->Q .non H'):ab tab R k aG [.ref b,.str "there",.int i] H Q E:=
 qQ (j:=1) ro hk z r rfl (vA hi) rfl (λ⟨a1,_,a⟩=>⟨a1,hi,a⟩) q
def JN (ro:Ro K R)(hk:4<=k)(z:Sep O H)(r:a9 (aJ R b ⟨h,t,l,w,s,m⟩) (aJ R b ⟨h,t,i,w,s,m⟩) O Γ')(hi:0<=i/\i<=1000000000)(q:∀ H',Sep Γ' H'->Q .non H'):ab tab R k aG [.ref b,.str "left",.int i] H Q E:=
 qQ (j:=2) ro hk z r rfl (vt hi) rfl (λ⟨a1,a2,_,a⟩=>⟨a1,a2,hi,a⟩) q
def KZ (ro:Ro K R)(hk:4<=k)(z:Sep O H)(r:a9 (aJ R b ⟨h,t,l,w,s,m⟩) (aJ R b ⟨h,t,l,w,s,i⟩) O Γ')(hi:i=0\/i=1)(q:∀ H',Sep Γ' H'->Q .non H'):ab tab R k aG [.ref b,.str "met",.int i] H Q E:=
 qQ (j:=5) ro hk z r rfl (by rcases hi with rfl|rfl<;>rfl) rfl (λ⟨a1,a2,a3,a4,a5,_⟩=>⟨a1,a2,a3,a4,a5,hi⟩) q
def CP (ro:Ro K R)(hk:1<=k)(z:Sep O H)(p:ag (aJ R b x) O Δ)(q:∀ t H',Sep (tu t (x.ls.map V.int)::O) H'->Q (.ref t) H'):ab tab R k gY [.ref b] H Q E:=by
 obtain ⟨hok,z2⟩:=d5 (z.pull p);exact C8 ro hk z2 (λt H' z3=>q t H' (Sep.push (.t p) (nc hok (z3.pull (.t .e)))))
def Ct (ro:Ro K R)(hk:4<=k)(hx:x.ok)(z:Sep (pt b (.ins (R.cad cb) dx [])::pt dx (.own b)::O) H)(q:∀ H',Sep (aJ R b x::O) H'->Q .non H'):
  ab tab R k bV (.ref b::x.ls.map V.int) H Q E:=uX ro hk rfl (HD hx) z (λH' z2=>q H' (nc hx z2))
def yt (ro:Ro K R)(hk:4<=k)(hx:(Bx.mk h t l w s m).ok)(z:Sep (pt b (.ins (R.cad cb) dx [])::pt dx (.own b)::O) H)(q:∀ H',Sep (aJ R b ⟨h,t,l,w,s,m⟩::O) H'->Q .non H'):
  ab tab R k bV [.ref b,.int h,.int t,.int l,.int w,.int s,.int m] H Q E:=Ct (x:=⟨h,t,l,w,s,m⟩) ro hk hx z q
end
abbrev gt (cs:List Int)(i:Int):Int:=(cs[i.toNat]?).getD 0
def Ii {cs:List Int}{x:Int}(h:cs[i.toNat]? =some x):gt cs i=x:=by unfold gt;rw[h];rfl
def Dp {cs:List Int}(h0:0<=i)(h1:i<cs.length):cs[i.toNat]? =some (gt cs i):=by
 unfold gt;rw[li nofun]
 rfl
def iO {cs:List Int}(h0:0<=i)(h1:i<cs.length):kG (cs.map V.int) i=some (.int (gt cs i)):=aw h0 (by rw[io,Dp h0 h1];rfl)
def Al {cs:List Int}(hc:cZ cs):0<=gt cs i/\gt cs i<=1000000000:=by
 unfold gt;cases e:cs[i.toNat]? with
 |none=>exact ⟨by decide,by decide⟩
 |some x=>exact hc x (cr e)
abbrev Bg (cs:List Int)(ws:List Str):Prop:=cs.length=ws.length/\1<=cs.length/\cs.length<=60/\cZ cs
abbrev aS (R:Rt)(a:Addr)(cs:List Int)(ws:List Str):aB:=bx λ_:Unit=>[aP (R.cad ar) a (cs.map V.int) (ws.map V.str),pu (Bg cs ws)]
def gR {cs:List Int}(s:Sep (aS R a cs ws::O) H):Bg cs ws/\Sep (aP (R.cad ar) a (cs.map V.int) (ws.map V.str)::O) H:=by
 obtain ⟨_,s⟩:=iq s;have s:Sep (aP (R.cad ar) a (cs.map V.int) (ws.map V.str)::pu (Bg cs ws)::O) H:=s;exact ⟨(s.pull (.t .e)).pure,(s.pull (.t .e)).drop⟩
def jt {cs:List Int}(hx:Bg cs ws)(s:Sep (aP (R.cad ar) a (cs.map V.int) (ws.map V.str)::O) H):Sep (aS R a cs ws::O) H:=fQ () (Sep.push (.t .e) (Sep.tF hx s))
def cJ {cs:List Int}(s:Sep O H)(p:ag (aS R a cs ws) O Δ):Bg cs ws:=(gR (s.pull p)).1
def bp {cs:List Int}:Ob R (aS R a cs ws) a ar ["contents","permits"]:=by
 rintro H D ⟨_,D1,D2,_,_,_,⟨⟨dx,c,d⟩,E1,E2,_,_,_,⟨_,h⟩,_⟩,_⟩;exact ⟨dx,_,h,rfl⟩
section
variable {a:Addr}{cs:List Int}{ws:List Str}{i v:Int}
def dC (hk:3<=k)(z:Sep O H)(p:ag (aS R a cs ws) O Δ)(q0:ai ws "look" i=true->Q (.int (gt cs i)) H)
  (q1:ai ws "look" i=false->∀ e H',Sep (ma (R.cad bb) [("deed",.str "look"),("cell",.int i)] e false::O) H'->E e H'):ab tab R k g6 [.ref a,.int i] H Q E:=by
 obtain ⟨hok,z2⟩:=gR (z.pull p);refine FD hk z2 (by rw[ce];exact hok.1) (λhm x hx=>?_) (λhm e H' z3=>q1 hm e H' (Sep.push (.t p) (jt hok (z3.pull (.t .e)))));rw[io] at hx;obtain ⟨y,hy,rfl⟩:=nw.mp hx;rw[<-Ii hy];exact q0 hm
def lE (hk:3<=k)(z:Sep O H)(r:a9 (aS R a cs ws) (aS R a (cs.set i.toNat v) ws) O Γ')(hv:0<=v/\v<=1000000000)(q0:ai ws "put" i=true->∀ H',Sep Γ' H'->Q .non H')
  (q1:ai ws "put" i=false->∀ e H',Sep (ma (R.cad bb) [("deed",.str "put"),("cell",.int i)] e false::O) H'->E e H'):ab tab R k jn [.ref a,.int i,.int v] H Q E:=by
 obtain ⟨Δ,p,p'⟩:=r.bO;obtain ⟨hok,z2⟩:=gR (z.pull p);refine IS hk z2 (by rw[ce];exact hok.1) (λhm H' z3=>q0 hm H' ?_) (λhm e H' z3=>q1 hm e H' (Sep.push (.t p) (jt hok (z3.pull (.t .e)))));refine Sep.push p' (jt ⟨by rw[length_set];exact hok.1,by rw[length_set];exact hok.2.1,by rw[length_set];exact hok.2.2.1,wQ hok.2.2.2 hv.1 hv.2⟩ ?_);rw[List.map_set];exact z3
def Gu {d:Str}(hk:2<=k)(z:Sep O H)(p:ag (aS R a cs ws) O Δ)(q:Q (.bl (ai ws d i)) H):ab tab R k jV [.ref a,.str d,.int i] H Q E:=by
 obtain ⟨hok,z2⟩:=gR (z.pull p);exact yL hk z2 (by rw[ce];exact hok.1) q
def uO (hk:1<=k)(z:Sep O H)(p:ag (aS R a cs ws) O Δ)(q:∀ l H',Sep (pt l (.lst (cs.map V.int))::O) H'->Q (.ref l) H'):ab tab R k hV [.ref a] H Q E:=by
 obtain ⟨hok,z2⟩:=gR (z.pull p);exact G6 hk z2 (λl H' z3=>q l H' (Sep.push (.t p) (jt hok (z3.pull (.t .e)))))
end
def wD {cs:List Int}(h1:1<=cs.length)(h60:cs.length<=60)(hc:cZ cs):bad (cs.map V.int)=none:=by
 refine qq (by rw[ce];exact ⟨h1,h60⟩) λi y hy=>?_
 rw[io] at hy;obtain ⟨z,hz,rfl⟩:=nw.mp hy;exact vt (hc z (cr hz))
def zG {cs:List Int}(s:Sep O H):Sep (tys (cs.map V.int)::O) H:=Sep.Jx (λx hx=>by
 obtain ⟨z,_,rfl⟩:=List.mem_map.mp hx;exact ⟨"int",rfl⟩) s
def nY {p:Addr}{cs:List Int}(ro:Ro K R)(hk:4<=k)(h1:1<=cs.length)(h60:cs.length<=60)(hc:cZ cs)(s:Sep (pt p (.ins (R.cad ar) dx [])::pt dx (.own p)::O) H)(h:ag (pt a (.lst (cs.map V.int))) O Δ)
  (q:∀ H',Sep (aS R p cs (sK cs.length "open")::O) H'->Q .non H'):ab tab R k dA [.ref p,.ref a] H Q E:=by
 have s2:=zG (cs:=cs) (s.pull (.t (.t h)));refine pI (a:=a) (dx:=dx) (O:=Δ) ro hk (s2.sub ?_) (λ_ H' z=>q H' ?_) (λat' hb=>absurd hb (by rw[wD h1 h60 hc];exact λz=>nomatch z))
 ·ac_nf
 ·refine Sep.push (.t h) ?_;have e:sK (cs.map V.int).length (V.str "open")=(sK cs.length ("open":Str)).map V.str:=by rw[ce,map_replicate]
  rw[e] at z;have z2:=jt (cs:=cs) ⟨by rw[List.length_replicate],h1,h60,hc⟩ z;exact z2.sub (by ac_nf)
def aW {T:Tab}{f:Nat}{vs vs':List V}(e:vs=vs')(h:ab T R k f vs' H Q E):ab T R k f vs H Q E:=e▸h
local macro_rules| `(tactic|walk_at "ag")=>`(tactic|first|refine aW (vs':=[_,_]) rfl ?_|refine aW (vs':=[_,_,_]) rfl ?_|refine aW (vs':=[_]) rfl ?_|refine aW (vs':=[_,_,_,_]) rfl ?_)
local macro_rules| `(tactic|walk_at "mt")=>`(tactic|first|((with_reducible refine' ae bj ?s ?p ?m ?f ?_);(case s=>with_reducible assumption);(case p=>symm);(case m=>exact rfl);(case f=>exact rfl))|((with_reducible refine' ae bp ?s ?p ?m ?f ?_);(case s=>with_reducible assumption);(case p=>symm);(case m=>exact rfl);(case f=>exact rfl)))
local macro_rules| `(tactic|walk_at "hq")=>`(tactic|((with_reducible (first|refine' Ke ?r ?k ?s ?p ?_|refine' Jz ?r ?k ?s ?p ?_|refine' F0 ?r ?k ?s ?p ?_|refine' Gi ?r ?k ?s ?p ?_|refine' LB ?r ?k ?s ?p ?_|refine' JM ?r ?k ?s ?p ?_));(case r=>with_reducible assumption);(case k=>exact nofun);(case s=>with_reducible assumption);(case p=>symm)))
local macro_rules| `(tactic|walk_at "gq")=>`(tactic|((with_reducible (first|refine' JL ?r ?k ?s ?p ?i (λH hs=>?_)|refine' Ir ?r ?k ?s ?p ?i (λH hs=>?_)|refine' JN ?r ?k ?s ?p ?i (λH hs=>?_)|refine' KZ ?r ?k ?s ?p ?i (λH hs=>?_)));(case r=>with_reducible assumption);(case k=>exact nofun);(case s=>with_reducible assumption);(case p=>ac_rfl);(case i=>omega)))
local macro_rules| `(tactic|walk_at "ws")=>`(tactic|(walk_at "w";repeat (first|(walk_at "st";walk_at "w")|(walk_at "mt";walk_at "w")|(walk_at "ag";(walk_at "hq");walk_at "w")|(walk_at "ag";(walk_at "gq");walk_at "w"))))
local macro_rules| `(tactic|walk_at "sc")=>`(tactic|first|(refine aK (by decide+kernel) ?_;walk_at "go")|(refine ak (by decide+kernel) ?_;walk_at "go"))
inductive Out where
 |on (r:Int) (x:Bx) (cs:List Int)
 |no (d:Str) (c:Int)
section
variable {b a:Addr}{h t l w s m i j by':Int}{cs:List Int}{ws:List Str}
def Fj (ro:Ro K R)(hk:5<=k)(z:Sep O H)(r:a9 (aJ R b ⟨h,t,l,w,s,m⟩) (aJ R b ⟨h+i,t,l,w,s,m⟩) O Γ')(hi: -1000000000<=h+i/\h+i<=1000000000)(q:∀ H',Sep Γ' H'->Q .non H'):ab tab R k tN [.ref b,.str "here",.int i] H Q E:=by
 obtain ⟨Δ,p1,p2⟩:=r.bO;refine wc (d:=pv) nofun rfl rfl ?_;left;refine ⟨rfl,?_⟩;left;refine ae bj z p1 rfl rfl ?_;left;refine ⟨rfl,?_⟩;left;refine ae bj z p1 rfl rfl ?_;left;refine Ke ro nofun z p1 ?_;left;exact JL ro nofun z r hi q
def IK (ro:Ro K R)(hk:5<=k)(z:Sep O H)(r:a9 (aJ R b ⟨h,t,l,w,s,m⟩) (aJ R b ⟨h,t+i,l,w,s,m⟩) O Γ')(hi: -1000000000<=t+i/\t+i<=1000000000)(q:∀ H',Sep Γ' H'->Q .non H'):ab tab R k tN [.ref b,.str "there",.int i] H Q E:=by
 obtain ⟨Δ,p1,p2⟩:=r.bO;refine wc (d:=pv) nofun rfl rfl ?_;left;refine ⟨rfl,?_⟩;left;refine ae bj z p1 rfl rfl ?_;left;refine ⟨rfl,?_⟩;left;refine ae bj z p1 rfl rfl ?_;left;refine Jz ro nofun z p1 ?_;left;exact Ir ro nofun z r hi q
def LO (ro:Ro K R)(hk:5<=k)(z:Sep O H)(r:a9 (aJ R b ⟨h,t,l,w,s,m⟩) (aJ R b ⟨h,t,l+i,w,s,m⟩) O Γ')(hi:0<=l+i/\l+i<=1000000000)(q:∀ H',Sep Γ' H'->Q .non H'):ab tab R k tN [.ref b,.str "left",.int i] H Q E:=by
 obtain ⟨Δ,p1,p2⟩:=r.bO;refine wc (d:=pv) nofun rfl rfl ?_;left;refine ⟨rfl,?_⟩;left;refine ae bj z p1 rfl rfl ?_;left;refine ⟨rfl,?_⟩;left;refine ae bj z p1 rfl rfl ?_;left;refine F0 ro nofun z p1 ?_;left;exact JN ro nofun z r hi q
abbrev fin (l:Int):Int:=if l=0 then 1 else 0
def qY (ro:Ro K R)(hk:6<=k)(z:Sep O H)(r:a9 (aJ R b ⟨h,t,l,w,s,m⟩) (aJ R b ⟨h,t,l+ -i,w,s,m⟩) O Γ')(hi:0<=l+ -i/\l+ -i<=1000000000)(q:∀ H',Sep Γ' H'->Q (.int (fin (l+ -i))) H'):ab tab R k rZ [.ref b,.int i] H Q E:=by
 obtain ⟨Δ,p1,p2⟩:=r.bO;refine wc (d:=jo) nofun rfl rfl ?_;right;refine LO ro nofun z r hi (λH1 z1=>?_);right;refine ae bj z1 p2 rfl rfl ?_;left;refine F0 ro nofun z1 p2 ?_;right;refine az (λe=>?_) (λe=>?_)
 ·right;have q:=q H1 z1;rw[fin,if_pos e] at q;exact q
 ·right;have q:=q H1 z1;rw[fin,if_neg e] at q;exact q
def tU (hk:4<=k)(z:Sep O H)(r:a9 (aS R a cs ws) (aS R a (cs.set j.toNat (gt cs i)) ws) O Γ')(q0:ai ws "look" i=true->ai ws "put" j=true->∀ H',Sep Γ' H'->Q .non H')
  (q1:ai ws "look" i=false->∀ e H',Sep (ma (R.cad bb) [("deed",.str "look"),("cell",.int i)] e false::O) H'->E e H')
  (q2:ai ws "look" i=true->ai ws "put" j=false->∀ e H',Sep (ma (R.cad bb) [("deed",.str "put"),("cell",.int j)] e false::O) H'->E e H'):ab tab R k GC [.ref a,.int i,.int j] H Q E:=by
 obtain ⟨Δ,p1,p2⟩:=r.bO;have ok:=cJ z p1;refine wc (d:=zA) nofun rfl rfl ?_;right;refine ae bp z p1 rfl rfl ?_;left;refine dC nofun z p1 (λhm=>?_) q1;right;refine ae bp z p1 rfl rfl ?_;left;refine lE nofun z r (Al ok.2.2.2) (λhp H1 z1=>?_) (q2 hm);right;exact q0 hm hp H1 z1
def nr (hk:3<=k)(z:Sep O H)(p:ag (aS R a cs ws) O Δ)(q0:ai ws "put" i=true->Q .non H)
  (q1:ai ws "put" i=false->∀ e H',Sep (ma (R.cad bb) [("deed",.str "put"),("cell",.int i)] e false::O) H'->E e H'):ab tab R k we [.ref a,.int i] H Q E:=by
 refine wc (d:=m9) nofun rfl rfl ?_;right;refine ae bp z p rfl rfl ?_;left;refine Gu nofun z p ?_;right;refine bY (λhm=>?_) (λhm=>?_)
 ·right;exact q0 hm
 ·right;intro x hx;refine eO nofun (z.new hx) (λd H hs=>?_);right;exact fu hs (by ac_rfl) rfl (λH hs=>q1 hm x H (jI hs))
def uc {Γf:Int->Int->List aB}(hk:4<=k)(z:Sep O H)(r:∀ v w:Int,∃ Γ1,a9 (aS R a cs ws) (aS R a (cs.set i.toNat v) ws) O Γ1/\a9 (aS R a (cs.set i.toNat v) ws) (aS R a ((cs.set i.toNat v).set j.toNat w) ws) Γ1 (Γf v w)) (q0:ai ws "look" i=true->ai ws "look" j=true->ai ws "put" i=true->ai ws "put" j=true->∀ H',Sep (Γf (gt cs j) (gt cs i)) H'->Q .non H')
  (q1:ai ws "look" i=false->∀ e H',Sep (ma (R.cad bb) [("deed",.str "look"),("cell",.int i)] e false::O) H'->E e H')
  (q2:ai ws "look" i=true->ai ws "look" j=false->∀ e H',Sep (ma (R.cad bb) [("deed",.str "look"),("cell",.int j)] e false::O) H'->E e H')
  (q3:ai ws "look" i=true->ai ws "look" j=true->ai ws "put" i=false->∀ e H',Sep (ma (R.cad bb) [("deed",.str "put"),("cell",.int i)] e false::O) H'->E e H')
  (q4:ai ws "look" i=true->ai ws "look" j=true->ai ws "put" i=true->ai ws "put" j=false->∀ e H',Sep (ma (R.cad bb) [("deed",.str "put"),("cell",.int j)] e false::O) H'->E e H'):ab tab R k uj [.ref a,.int i,.int j] H Q E:=by
 obtain ⟨Γ1,r1,r2⟩:=r (gt cs j) (gt cs i);obtain ⟨Δ,p1,p2⟩:=r1.bO;obtain ⟨Δ2,p3,p4⟩:=r2.bO;have ok:=cJ z p1;refine wc (d:=k6) nofun rfl rfl ?_;right;refine ae bp z p1 rfl rfl ?_;left;refine dC nofun z p1 (λh1=>?_) q1;right;refine ae bp z p1 rfl rfl ?_;left;refine dC nofun z p1 (λh2=>?_) (q2 h1);right;refine nr nofun z p1 (λh3=>?_) (q3 h1 h2);right;refine nr nofun z p1 (λh4=>?_) (q4 h1 h2 h3);right;refine ae bp z p1 rfl rfl ?_;left;refine lE nofun z r1 (Al ok.2.2.2) (λhp H1 z1=>?_) (λhp=>absurd (h3.symm.trans hp) (by decide));right;refine ae bp z1 p3 rfl rfl ?_;left;refine lE nofun z1 r2 (Al ok.2.2.2) (λhp H2 z2=>?_) (λhp=>absurd (h4.symm.trans hp) (by decide));right;exact q0 h1 h2 h3 h4 H2 z2
abbrev ua (R:Rt)(b a:Addr)(x:Bx)(cs:List Int)(ws:List Str)(O:List aB)(Q:VK)(E:XK):Out->Prop
 | .on r x' cs'=>∀ H',Sep (aJ R b x'::aS R a cs' ws::O) H'->Q (.int r) H'
 | .no d c=>∀ e H',Sep (ma (R.cad bb) [("deed",.str d),("cell",.int c)] e false::aJ R b x::aS R a cs ws::O) H'->E e H'
abbrev hm (cs:List Int)(ws:List Str)(i j:Int)(f:List Int->Out):Out:=
 if ai ws "look" i=true then (if ai ws "put" j=true then f (cs.set j.toNat (gt cs i)) else .no "put" j) else .no "look" i
abbrev gG (x:Bx)(cs:List Int)(ws:List Str):Out:=
 if x.l=0 then .on 1 x cs else if x.t<=x.h then hm cs ws x.h x.t λcs'=>.on (fin (x.l+ -1)) ⟨x.h+1,x.t+1,x.l+ -1,x.w,x.s,x.m⟩ cs'
 else hm cs ws (x.h+x.l-1) (x.t+x.l-1) λcs'=>.on (fin (x.l+ -1)) ⟨x.h,x.t,x.l+ -1,x.w,x.s,x.m⟩ cs'
abbrev xm (cs:List Int)(ws:List Str)(i j:Int)(f:List Int->Out):Out:=
 if ai ws "look" i=true then (if ai ws "look" j=true then (if ai ws "put" i=true then (if ai ws "put" j=true then f ((cs.set i.toNat (gt cs j)).set j.toNat (gt cs i)) else .no "put" j) else .no "put" i) else .no "look" j) else .no "look" i
abbrev kW (x:Bx)(cs:List Int)(ws:List Str):Out:=
 if x.l=0 then .on 1 x cs else if x.l=1 then .on 1 ⟨x.h,x.t,0,x.w,x.s,x.m⟩ cs else xm cs ws x.h (x.h+x.l-1) λcs'=>.on (fin (x.l+ -2)) ⟨x.h+1,x.t,x.l+ -2,x.w,x.s,x.m⟩ cs'
def zI (ro:Ro K R)(hk:7<=k)(z:Sep (aJ R b x::aS R a cs ws::O) H)(q:ua R b a x cs ws O Q E (gG x cs ws)):ab tab R k iM [v,.ref b,.ref a] H Q E:=by
 have ok:=lC z .e;have sk:=cJ z (.t .e);obtain ⟨h,t,l,w,s,m⟩:=x;obtain ⟨⟨o1,o2⟩,⟨o3,o4⟩,⟨o5,o6⟩,o7⟩:=ok;dsimp only at o1 o2 o3 o4 o5 o6;obtain ⟨s1,s2,s3,s4⟩:=sk;refine wc (d:=gP) nofun rfl rfl ?_;walk_at "ws";refine az (λe=>?_) (λe=>?_)
 ·walk_at "ws";rw[gG,if_pos e] at q;exact q H z
 rw[gG,if_neg e] at q;walk_at "ws";refine ax (λe2=>?_) (λe2=>?_)
 ·rw[if_pos e2] at q;walk_at "ws";refine tU nofun z (.t .e) (λh1 h2 H1 z1=>?_) (λh1=>?_) (λh1 h2=>?_)
  ·have g1:=av h1;have g2:=av h2;rw[hm,if_pos h1,if_pos h2] at q;walk_at "ws";refine Fj ro nofun z1 .e nofun (λH2 z2=>?_);walk_at "ws";refine IK ro nofun z2 .e nofun (λH3 z3=>?_);walk_at "ws";exact qY ro nofun z3 .e nofun (λH4 z4=>q H4 z4)
  ·rw[hm,if_neg (by rw[h1];decide)] at q;exact q
  ·rw[hm,if_pos h1,if_neg (by rw[h2];decide)] at q;exact q
 ·rw[if_neg e2] at q;walk_at "ws";refine tU nofun z (.t .e) (λh1 h2 H1 z1=>?_) (λh1=>?_) (λh1 h2=>?_)
  ·rw[hm,if_pos h1,if_pos h2] at q;walk_at "ws";exact qY ro nofun z1 .e nofun (λH4 z4=>q H4 z4)
  ·rw[hm,if_neg (by rw[h1];decide)] at q;exact q
  ·rw[hm,if_pos h1,if_neg (by rw[h2];decide)] at q;exact q
def BH (ro:Ro K R)(hk:7<=k)(z:Sep (aJ R b x::aS R a cs ws::O) H)(q:ua R b a x cs ws O Q E (kW x cs ws)):ab tab R k jE [v,.ref b,.ref a] H Q E:=by
 have ok:=lC z .e;have sk:=cJ z (.t .e);obtain ⟨h,t,l,w,s,m⟩:=x;obtain ⟨⟨o1,o2⟩,⟨o3,o4⟩,⟨o5,o6⟩,o7⟩:=ok;dsimp only at o1 o2 o3 o4 o5 o6;obtain ⟨s1,s2,s3,s4⟩:=sk;refine wc (d:=jC) nofun rfl rfl ?_;walk_at "ws";refine az (λe=>?_) (λe=>?_)
 ·walk_at "ws";rw[kW,if_pos e] at q;exact q H z
 rw[kW,if_neg e] at q;walk_at "ws";refine az (λe2=>?_) (λe2=>?_)
 ·rw[if_pos e2] at q;walk_at "ws";refine qY ro nofun z .e nofun (λH4 z4=>?_);subst e2;exact q H4 z4
 ·rw[if_neg e2] at q;walk_at "ws";refine uc (Γf:=λv w'=>aJ R b ⟨h,t,l,w,s,m⟩::aS R a ((cs.set h.toNat v).set (h+l-1).toNat w') ws::O) nofun z (λv w=>⟨_,.t .e,.t .e⟩) (λh1 h2 h3 h4 H1 z1=>?_) (λh1=>?_) (λh1 h2=>?_) (λh1 h2 h3=>?_) (λh1 h2 h3 h4=>?_)
  ·have g1:=av h1;rw[xm,if_pos h1,if_pos h2,if_pos h3,if_pos h4] at q;walk_at "ws";refine Fj ro nofun z1 .e nofun (λH2 z2=>?_);walk_at "ws";exact qY ro nofun z2 .e nofun (λH4 z4=>q H4 z4)
  ·rw[xm,if_neg (by rw[h1];decide)] at q;exact q
  ·rw[xm,if_pos h1,if_neg (by rw[h2];decide)] at q;exact q
  ·rw[xm,if_pos h1,if_pos h2,if_neg (by rw[h3];decide)] at q;exact q
  ·rw[xm,if_pos h1,if_pos h2,if_pos h3,if_neg (by rw[h4];decide)] at q;exact q
end
section
variable {b a:Addr}{h t l w s m i j:Int}{cs:List Int}{ws:List Str}
def GP (ro:Ro K R)(hk:6<=k)(z:Sep O H)(r:a9 (aJ R b ⟨h,t,l,w,s,m⟩) (aJ R b ⟨h+w,t,l,w,s,m⟩) O Γ')(hi: -1000000000<=h+w/\h+w<=1000000000)(q:∀ H',Sep Γ' H'->Q .non H'):ab tab R k jS [.ref b,.str "here"] H Q E:=by
 obtain ⟨Δ,p1,p2⟩:=r.bO;refine wc (d:=eh) nofun rfl rfl ?_;left;refine ⟨rfl,?_⟩;left;refine ⟨rfl,?_⟩;left;refine ae bj z p1 rfl rfl ?_;left;refine Gi ro nofun z p1 ?_;left;exact Fj ro nofun z r hi q
def Gg (ro:Ro K R)(hk:6<=k)(z:Sep O H)(r:a9 (aJ R b ⟨h,t,l,w,s,m⟩) (aJ R b ⟨h,t+w,l,w,s,m⟩) O Γ')(hi: -1000000000<=t+w/\t+w<=1000000000)(q:∀ H',Sep Γ' H'->Q .non H'):ab tab R k jS [.ref b,.str "there"] H Q E:=by
 obtain ⟨Δ,p1,p2⟩:=r.bO;refine wc (d:=eh) nofun rfl rfl ?_;left;refine ⟨rfl,?_⟩;left;refine ⟨rfl,?_⟩;left;refine ae bj z p1 rfl rfl ?_;left;refine Gi ro nofun z p1 ?_;left;exact IK ro nofun z r hi q
abbrev lG (x:Bx)(cs:List Int)(ws:List Str):Out:=
 if x.l=0 then .on 1 x cs else hm cs ws x.h x.t λcs'=>.on (fin (x.l+ -1)) ⟨x.h+x.w,x.t+x.w,x.l+ -1,x.w,x.s,x.m⟩ cs'
abbrev lT (x:Bx)(cs:List Int)(ws:List Str):Out:=
 if x.l=0 then .on 1 x cs else if ai ws "put" x.t=true then .on (fin (x.l+ -1)) ⟨x.h,x.t+x.w,x.l+ -1,x.w,x.s,x.m⟩ (cs.set x.t.toNat x.s) else .no "put" x.t
abbrev lJ (x:Bx)(cs:List Int)(ws:List Str):Out:=
 if x.l=0 then .on 1 ⟨x.h,x.t,x.l,x.w,x.s,0⟩ cs else if ai ws "look" x.h=true then
  (if gt cs x.h=x.s then .on 1 ⟨x.h,x.t,x.l,x.w,x.s,1⟩ cs else .on (fin (x.l+ -1)) ⟨x.h+x.w,x.t,x.l+ -1,x.w,x.s,0⟩ cs) else .no "look" x.h
abbrev gB (x:Bx)(cs:List Int)(ws:List Str):Out:=
 if x.l=0 then .on 1 ⟨x.h,x.t,x.l,x.w,x.s,1⟩ cs else if ai ws "look" x.h=true then (if ai ws "look" x.t=true then
  (if gt cs x.h=gt cs x.t then .on (fin (x.l+ -1)) ⟨x.h+x.w,x.t+x.w,x.l+ -1,x.w,x.s,1⟩ cs else .on 1 ⟨x.h,x.t,x.l,x.w,x.s,0⟩ cs) else .no "look" x.t) else .no "look" x.h
def nt {c:Bool}(h:c=false):¬ c=true:=by rw[h];decide
def CT (ro:Ro K R)(hk:8<=k)(z:Sep (aJ R b x::aS R a cs ws::O) H)(q:ua R b a x cs ws O Q E (lG x cs ws)):ab tab R k jz [v,.ref b,.ref a] H Q E:=by
 have ok:=lC z .e;have sk:=cJ z (.t .e);obtain ⟨h,t,l,w,s,m⟩:=x;obtain ⟨⟨o1,o2⟩,⟨o3,o4⟩,⟨o5,o6⟩,o7,o8⟩:=ok;dsimp only at o1 o2 o3 o4 o5 o6 o7;obtain ⟨s1,s2,s3,s4⟩:=sk;refine wc (d:=jk) nofun rfl rfl ?_;walk_at "ws";refine az (λe=>?_) (λe=>?_)
 ·walk_at "ws";rw[lG,if_pos e] at q;exact q H z
 rw[lG,if_neg e] at q;walk_at "ws";refine tU nofun z (.t .e) (λh1 h2 H1 z1=>?_) (λh1=>?_) (λh1 h2=>?_)
 ·have g1:=av h1;have g2:=av h2;rw[hm,if_pos h1,if_pos h2] at q;walk_at "ws";refine GP ro nofun z1 .e nofun (λH2 z2=>?_);walk_at "ws";refine Gg ro nofun z2 .e nofun (λH3 z3=>?_);walk_at "ws";exact qY ro nofun z3 .e nofun (λH4 z4=>q H4 z4)
 ·rw[hm,if_neg (nt h1)] at q;exact q
 ·rw[hm,if_pos h1,if_neg (nt h2)] at q;exact q
def BR (ro:Ro K R)(hk:8<=k)(z:Sep (aJ R b x::aS R a cs ws::O) H)(q:ua R b a x cs ws O Q E (lT x cs ws)):ab tab R k js [v,.ref b,.ref a] H Q E:=by
 have ok:=lC z .e;have sk:=cJ z (.t .e);obtain ⟨h,t,l,w,s,m⟩:=x;obtain ⟨⟨o1,o2⟩,⟨o3,o4⟩,⟨o5,o6⟩,o7,o8,o9⟩:=ok;dsimp only at o1 o2 o3 o4 o5 o6 o7 o8;obtain ⟨s1,s2,s3,s4⟩:=sk;refine wc (d:=jD) nofun rfl rfl ?_;walk_at "ws";refine az (λe=>?_) (λe=>?_)
 ·walk_at "ws";rw[lT,if_pos e] at q;exact q H z
 rw[lT,if_neg e] at q;walk_at "ws";refine lE nofun z (.t .e) o8 (λh2 H1 z1=>?_) (λh2=>?_)
 ·have g2:=av h2;rw[if_pos h2] at q;walk_at "ws";refine Gg ro nofun z1 .e nofun (λH3 z3=>?_);walk_at "ws";exact qY ro nofun z3 .e nofun (λH4 z4=>q H4 z4)
 ·rw[if_neg (nt h2)] at q;exact q
def B9 (ro:Ro K R)(hk:8<=k)(z:Sep (aJ R b x::aS R a cs ws::O) H)(q:ua R b a x cs ws O Q E (lJ x cs ws)):ab tab R k jN [v,.ref b,.ref a] H Q E:=by
 have ok:=lC z .e;have sk:=cJ z (.t .e);obtain ⟨h,t,l,w,s,m⟩:=x;obtain ⟨⟨o1,o2⟩,⟨o3,o4⟩,⟨o5,o6⟩,o7,o8⟩:=ok;dsimp only at o1 o2 o3 o4 o5 o6 o7;obtain ⟨s1,s2,s3,s4⟩:=sk;refine wc (d:=jM) nofun rfl rfl ?_;walk_at "ws";refine az (λe=>?_) (λe=>?_)
 ·rw[lJ,if_pos e] at q;walk_at "ws";rename_i H1 z1;exact q _ z1
 rw[lJ,if_neg e] at q;walk_at "ws";refine dC nofun z (.t .e) (λh1=>?_) (λh1=>?_)
 ·have g1:=av h1;rw[if_pos h1] at q;walk_at "ws";refine az (λe=>?_) (λe=>?_)
  ·rw[if_pos e] at q;walk_at "ws";rename_i H1 z1;exact q _ z1
  ·rw[if_neg e] at q;walk_at "ws";rename_i H1 z1;refine GP ro nofun z1 .e nofun (λH3 z3=>?_);walk_at "ws";exact qY ro nofun z3 .e nofun (λH4 z4=>q H4 z4)
 ·rw[if_neg (nt h1)] at q;exact q
def Ak (ro:Ro K R)(hk:8<=k)(z:Sep (aJ R b x::aS R a cs ws::O) H)(q:ua R b a x cs ws O Q E (gB x cs ws)):ab tab R k ig [v,.ref b,.ref a] H Q E:=by
 have ok:=lC z .e;have sk:=cJ z (.t .e);obtain ⟨h,t,l,w,s,m⟩:=x;obtain ⟨⟨o1,o2⟩,⟨o3,o4⟩,⟨o5,o6⟩,o7,o8⟩:=ok;dsimp only at o1 o2 o3 o4 o5 o6 o7;obtain ⟨s1,s2,s3,s4⟩:=sk;refine wc (d:=gX) nofun rfl rfl ?_;walk_at "ws";refine az (λe=>?_) (λe=>?_)
 ·rw[gB,if_pos e] at q;walk_at "ws";rename_i H1 z1;exact q _ z1
 rw[gB,if_neg e] at q;walk_at "ws";refine dC nofun z (.t .e) (λh1=>?_) (λh1=>?_)
 ·have g1:=av h1;rw[if_pos h1] at q;walk_at "ws";refine dC nofun z (.t .e) (λh2=>?_) (λh2=>?_)
  ·have g2:=av h2;rw[if_pos h2] at q;walk_at "ws";refine az (λe=>?_) (λe=>?_)
   ·rw[if_pos e] at q;walk_at "ws";rename_i H1 z1;refine GP ro nofun z1 .e nofun (λH2 z2=>?_);walk_at "ws";refine Gg ro nofun z2 .e nofun (λH3 z3=>?_);walk_at "ws";exact qY ro nofun z3 .e nofun (λH4 z4=>q H4 z4)
   ·rw[if_neg e] at q;walk_at "ws";rename_i H1 z1;exact q _ z1
  ·rw[if_neg (nt h2)] at q;exact q
 ·rw[if_neg (nt h1)] at q;exact q
end
abbrev b2i (c:Bool):Int:=match c with
 |true=>1
 |false=>0
def dI {G:Gx}{c:Bool}(q:Q (.int (b2i c)) H):mj G .int [.bl c] H Q:=by
 unfold mj;refine .inr ⟨c,rfl,?_⟩;cases c<;>exact q
section
variable {cs:List Int}{f g:Nat->Int}{i v:Int}
end
abbrev dd (R:Rt)(d:Addr)(c:Nat):aB:=bx λdx:Addr=>[pt d (.ins (R.cad c) dx []),pt dx (.own d)]
def LG {c:Nat}(s:Sep (pt d (.ins (R.cad c) dx [])::pt dx (.own d)::O) H):Sep (dd R d c::O) H:=fQ dx s
def JX {c:Nat}:Ob R (dd R d c) d c []:=by
 rintro H D ⟨dx,D1,D2,_,_,_,⟨_,h⟩,_⟩;exact ⟨dx,_,h,rfl⟩
def vk {p:Addr}{cs:List Int}(h1:H l=some (.lst (cs.map V.int)))(h2:H p=some (.lst (cs.map V.int))):gF R.K H 2 (.ref l) (.ref p) true:=
 qU (n:=0) h1 h2 λx hx=>by
  obtain ⟨z,_,rfl⟩:=List.mem_map.mp hx;exact ⟨"int",rfl⟩
abbrev aq (d:Addr)(x:Bx):aB:=pt d (.dK (wK.zip (x.ls.map V.int)))
section
variable {d:Addr}{h t l w s m i:Int}{P:Hp->Prop}
def Mg {K:W.Frag}(z:Sep O H)(p:ag (aq d ⟨h,t,l,w,s,m⟩) O Δ)(q:Q (.int h) H):qP K (.ref d) (.str "here") H Q:=pd (k:=.inr "here") (z.get p) rfl q
def LP {K:W.Frag}(z:Sep O H)(p:ag (aq d ⟨h,t,l,w,s,m⟩) O Δ)(q:Q (.int t) H):qP K (.ref d) (.str "there") H Q:=pd (k:=.inr "there") (z.get p) rfl q
def LK {K:W.Frag}(z:Sep O H)(p:ag (aq d ⟨h,t,l,w,s,m⟩) O Δ)(q:Q (.int l) H):qP K (.ref d) (.str "left") H Q:=pd (k:=.inr "left") (z.get p) rfl q
def Ly {K:W.Frag}(z:Sep O H)(p:ag (aq d ⟨h,t,l,w,s,m⟩) O Δ)(q:Q (.int w) H):qP K (.ref d) (.str "way") H Q:=pd (k:=.inr "way") (z.get p) rfl q
def Lo {K:W.Frag}(z:Sep O H)(p:ag (aq d ⟨h,t,l,w,s,m⟩) O Δ)(q:Q (.int s) H):qP K (.ref d) (.str "sign") H Q:=pd (k:=.inr "sign") (z.get p) rfl q
def LX {K:W.Frag}(z:Sep O H)(p:ag (aq d ⟨h,t,l,w,s,m⟩) O Δ)(q:Q (.int m) H):qP K (.ref d) (.str "met") H Q:=pd (k:=.inr "met") (z.get p) rfl q
def qZ {y:Bx}{j:Nat}{nm:Str}(z:Sep O H)(r:a9 (aq d x) (aq d y) O Γ')(hj:qe[j]? =some nm)(hx:x.ls.set j i=y.ls)(q:∀ H',Sep Γ' H'->P H'):iS (.ref d) (.str nm) (.int i) H P:=by
 refine uV (k:=.inr nm) z r (pc rfl) ?_ q;rw[<-hx];exact vG rfl hj
def LF (z:Sep O H)(r:a9 (aq d ⟨h,t,l,w,s,m⟩) (aq d ⟨i,t,l,w,s,m⟩) O Γ')(q:∀ H',Sep Γ' H'->P H'):iS (.ref d) (.str "here") (.int i) H P:=qZ (j:=0) z r rfl rfl q
def Ll (z:Sep O H)(r:a9 (aq d ⟨h,t,l,w,s,m⟩) (aq d ⟨h,i,l,w,s,m⟩) O Γ')(q:∀ H',Sep Γ' H'->P H'):iS (.ref d) (.str "there") (.int i) H P:=qZ (j:=1) z r rfl rfl q
def Lq (z:Sep O H)(r:a9 (aq d ⟨h,t,l,w,s,m⟩) (aq d ⟨h,t,i,w,s,m⟩) O Γ')(q:∀ H',Sep Γ' H'->P H'):iS (.ref d) (.str "left") (.int i) H P:=qZ (j:=2) z r rfl rfl q
def LL (z:Sep O H)(r:a9 (aq d ⟨h,t,l,w,s,m⟩) (aq d ⟨h,t,l,w,s,i⟩) O Γ')(q:∀ H',Sep Γ' H'->P H'):iS (.ref d) (.str "met") (.int i) H P:=qZ (j:=5) z r rfl rfl q
end
local macro_rules| `(tactic|walk_at "sx")=>`(tactic|((with_reducible (first|refine' Mg ?s ?p ?_|refine' LP ?s ?p ?_|refine' LK ?s ?p ?_|refine' Ly ?s ?p ?_|refine' Lo ?s ?p ?_|refine' LX ?s ?p ?_));(case s=>with_reducible assumption);(case p=>symm)))
local macro_rules| `(tactic|walk_at "sy")=>`(tactic|((with_reducible (first|refine' LF ?s ?p (λH hs=>?_)|refine' Ll ?s ?p (λH hs=>?_)|refine' Lq ?s ?p (λH hs=>?_)|refine' ds_w ?s ?p (λH hs=>?_)|refine' ds_s ?s ?p (λH hs=>?_)|refine' LL ?s ?p (λH hs=>?_)));(case s=>with_reducible assumption);(case p=>ac_rfl)))
local macro_rules| `(tactic|walk_at "wd")=>`(tactic|(walk_at "w";repeat (first|(walk_at "sx";walk_at "w")|(walk_at "sy";walk_at "w")|(walk_at "st";walk_at "w")|(refine dI ?_;walk_at "w"))))
def Aq {lv:Addr}{d:Str}(hk:1<=k)(z:Sep O H)(p:ag (pt lv (.lst (ws.map V.str))) O Δ)(q:Q (.bl (ai ws d i)) H):ab tab R k tm [.ref lv,.str d,.int i] H Q E:=by
 have e0:H lv=some (.lst (ws.map V.str)):=z.get p;have no:(i<0\/¬ i<ws.length)->ai ws d i=false:=λh=>by
  unfold ai;rcases h with h|h
  ·rw[decide_eq_false (by omega:¬ 0<=i),Bool.false_and]
  ·rw[decide_eq_false h,Bool.false_and,Bool.and_false]
 refine wc (d:=lI) nofun rfl rfl ?_;left;refine ax (λh0=>?_) (λh0=>?_)
 ·right;rw[no (.inl h0)] at q;exact q
 left;refine iQ e0 ?_;left;rw[ce];refine ax (λh1=>?_) (λh1=>?_)
 ·right;rw[no (.inr nofun)] at q;exact q
 have h2:i.toNat<ws.length:=by omega
 have e1:ws[i.toNat]? =some ws[i.toNat]:=li h2;generalize ws[i.toNat]=w at e1;have e2:(ws.map V.str)[i.toNat]? =some (.str w):=by rw[io,e1];rfl
 have e3:ai ws d i=(if w="look" then d =="look" else w =="open"):=by
  unfold ai;rw[e1,decide_eq_true (by omega:0<=i),decide_eq_true (by omega:i<ws.length)]
  rfl
 left;refine aD e0 (aw nofun e2) ?_;right;refine bY (λhw=>?_) (λhw=>?_)
 ·have hw:w="open":=by simpa [dr] using hw
  subst hw;rw[e3,if_neg (by decide+kernel)] at q;right;exact q
 ·have hw:¬ w="open":=by simpa [dr] using hw
  left;refine aD e0 (aw nofun e2) ?_;right;refine bY (λhl=>?_) (λhl=>?_)
  ·have hl:w="look":=by simpa [dr] using hl
   rw[e3,if_pos hl] at q;right;exact q
  ·have hl:¬ w="look":=by simpa [dr] using hl
   have e4:(w ==("open":Str))=false:=by simpa using hw
   rw[e3,if_neg hl,e4] at q;right;exact q
inductive Wd where
 |copy|fill|seek|mtch|shift|turn
abbrev Wd.s:Wd->Str
 | .copy=>"copy"
 | .fill=>"fill"
 | .seek=>"seek"
 | .mtch=>"match"
 | .shift=>"shift"
 | .turn=>"turn"
abbrev DH (h t l:Int):Wd->List Int
 | .copy=>[h]
 | .fill=>[]
 | .seek=>[h]
 | .mtch=>[h,t]
 | .shift=>if t<=h then [h+0] else [h+(l-1)]
 | .turn=>if l=1 then [] else [h,h+l-1]
abbrev BO (h t l:Int):Wd->List Int
 | .copy=>[t]
 | .fill=>[t]
 | .seek=>[]
 | .mtch=>[]
 | .shift=>if t<=h then [t+0] else [t+(l-1)]
 | .turn=>if l=1 then [] else [h,h+l-1]
abbrev mY (wd:Wd)(x:Bx):List Int:=if x.l=0 then [] else DH x.h x.t x.l wd
abbrev wq (wd:Wd)(x:Bx):List Int:=if x.l=0 then [] else BO x.h x.t x.l wd
def Ng {v0 v1:V}{c:Bool}:kG [v0,v1] (b2i c)=some (if c=true then v1 else v0):=by cases c<;>rfl
abbrev aZ (ws:List Str)(d:Str):List Int->Option (Str×Int)
 | []=>none
 |c::r=>if ai ws d c=true then aZ ws d r else some (d,c)
abbrev bI (ws:List Str)(ls ps:List Int):Option (Str×Int):=match aZ ws "look" ls with
 |some r=>some r
 |none=>aZ ws "put" ps
def lU {ws:List Str}{d:Str}:∀ {l:List Int},(∀ c ∈ l,ai ws d c=true)->aZ ws d l=none
 | [],_=>rfl
 |c::r,h=>by
  unfold aZ;rw[if_pos (h c mo)];exact lU λc hc=>h c (dL _ hc)
def pE {ws:List Str}{d:Str}{c:Int}:∀ {l:List Int}{j:Nat},(∀ i x,i<j->l[i]? =some x->ai ws d x=true)->l[j]? =some c->ai ws d c=false->aZ ws d l=some (d,c)
 | [],_,_,h,_=>by simp at h
 |a::r,0,_,h,hc=>by
  have:a=c:=by simpa using h
  subst this;unfold aZ;rw[if_neg (nt hc)]
 |a::r,j+1,hb,h,hc=>by
  unfold aZ;rw[if_pos (hb 0 a (Nat.succ_pos _) rfl)];exact pE (λi x hi hx=>hb (i+1) x (Nat.succ_lt_succ hi) (by simpa using hx)) (by simpa using h) hc
abbrev cY:Wd->Bx->List Int->List Str->Out
 | .copy=>lG
 | .fill=>lT
 | .seek=>lJ
 | .mtch=>gB
 | .shift=>gG
 | .turn=>kW
abbrev jv (d p:Addr)(O:List aB)(Q:VK):Out->Prop
 | .on r x' cs'=>∀ H',Sep (aq d x'::pt p (.lst (cs'.map V.int))::O) H'->Q (.int r) H'
 | .no _ _=>True
def aF {d:Str}{r:List Int}(h:aZ ws d (c::r)=none):ai ws d c=true/\aZ ws d r=none:=by
 unfold aZ at h
 by_cases e:ai ws d c=true
 ·rw[if_pos e] at h;exact ⟨e,h⟩
 ·rw[if_neg e] at h;cases h
def hG {ls ps:List Int}(h:bI ws ls ps=none):aZ ws "look" ls=none/\aZ ws "put" ps=none:=by
 unfold bI at h
 split at h
 ·cases h
 ·rename_i e;exact ⟨e,h⟩
def nE {l:Int}:b2i (dr (.int l) (.int 0))=fin l:=by
 show b2i (l ==0)=_;unfold fin
 by_cases e:l=0
 ·rw[if_pos e,e];rfl
 ·rw[if_neg e,show (l ==0)=false by simpa using e];rfl
def cP {cs:List Int}{v:Int}:(cs.map V.int).set n (.int v)=(cs.set n v).map V.int:=by rw[List.map_set]
def Ax {l:Int}:b2i (dr (.int l) (.int 1))=fin (l+ -1):=by
 show b2i (l ==1)=_;unfold fin
 by_cases e:l=1
 ·rw[if_pos nofun,e];rfl
 ·rw[if_neg nofun,show (l ==1)=false by simpa using e];rfl
def Bs {l:Int}:l-1=l+ -1:=by omega
def Mz {l:Int}:l-2=l+ -2:=by omega
def Er {j:Int}(h:i=j):dr (.int i) (.int j)=true:=by subst h;show (i ==i)=true;simp
def Ez {j:Int}(h:i≠j):dr (.int i) (.int j)=false:=by show (i ==j)=false;simpa using h
variable {wd:Wd}
section
variable {d p:Addr}{h t l w s m:Int}{cs:List Int}{ws:List Str}
def rg (wd:Wd)(hw:wd=.seek\/wd=.mtch)(hk:1<=k)(hl:cs.length=ws.length)(hb:bI ws (mY wd x) (wq wd x)=none)(z:Sep (aq d x::pt p (.lst (cs.map V.int))::O) H)
  (q:jv d p O Q (cY wd x cs ws)):ab tab R k mR [.str wd.s,.ref d,.ref p] H Q E:=by
 obtain ⟨h,t,l,w,s,m⟩:=x;obtain ⟨b1,b2⟩:=hG hb;have f1:b2i (dr (.str Wd.seek.s) (.str "match"))=0:=by decide+kernel
 have f2:b2i (dr (.str Wd.mtch.s) (.str "match"))=1:=by decide+kernel
 have f3:b2i (dr (.str Wd.seek.s) (.str "seek"))=1:=by decide+kernel
 have f4:b2i (dr (.str Wd.mtch.s) (.str "seek"))=0:=by decide+kernel
 have f5:dr (.str Wd.seek.s) (.str "seek")=true:=by decide+kernel
 have f6:dr (.str Wd.mtch.s) (.str "seek")=false:=by decide+kernel
 refine wc (d:=fS) nofun rfl rfl ?_;rcases hw with rfl|rfl
 ·have q:jv d p O Q (lJ ⟨h,t,l,w,s,m⟩ cs ws):=q;walk_at "wd";refine az (λe=>?_) (λe=>?_)
  ·rw[lJ,if_pos e] at q;walk_at "wd";rename_i H1 z1;rw[f1] at z1;exact q _ z1
  rw[lJ,if_neg e] at q;have b1:aZ ws "look" [h]=none:=(congrArg _ (if_neg e)).symm.trans b1;obtain ⟨m1,_⟩:=aF b1;obtain ⟨g1,g2⟩:=av m1;rw[if_pos m1] at q;walk_at "wd"
  repeat walk_at "sc"
  refine aD (by grind) (iO g1 nofun) ?_;walk_at "wd";rw[f5]
  by_cases e2:gt cs h=s
  ·rw[if_pos e2] at q;rw[Er e2];walk_at "wd";rename_i H1 z1;rw[f3] at z1;exact q _ z1
  ·rw[if_neg e2] at q;rw[Ez e2];walk_at "wd"
   repeat walk_at "sc"
   walk_at "wd";rename_i H1 z1 H2 z2 H3 z3;rw[f1,Bs] at z3;rw[Ax];exact q _ z3
 ·have q:jv d p O Q (gB ⟨h,t,l,w,s,m⟩ cs ws):=q;walk_at "wd";refine az (λe=>?_) (λe=>?_)
  ·rw[gB,if_pos e] at q;walk_at "wd";rename_i H1 z1;rw[f2] at z1;exact q _ z1
  rw[gB,if_neg e] at q;have b1:aZ ws "look" [h,t]=none:=(congrArg _ (if_neg e)).symm.trans b1;obtain ⟨m1,b3⟩:=aF b1;obtain ⟨m2,_⟩:=aF b3;obtain ⟨g1,g2⟩:=av m1;obtain ⟨g3,g4⟩:=av m2;rw[if_pos m1,if_pos m2] at q;walk_at "wd"
  repeat walk_at "sc"
  refine aD (by grind) (iO g3 nofun) ?_;walk_at "wd";refine aD (by grind) (iO g1 nofun) ?_;walk_at "wd";rw[f6]
  by_cases e2:gt cs h=gt cs t
  ·rw[if_pos e2] at q;rw[Er e2];walk_at "wd"
   repeat walk_at "sc"
   walk_at "wd";rename_i H1 z1 H2 z2 H3 z3 H4 z4;rw[f2,Bs] at z4;rw[Ax];exact q _ z4
  ·rw[if_neg e2] at q;rw[Ez e2];walk_at "wd";rename_i H1 z1;rw[f4] at z1;exact q _ z1
def CU (wd:Wd)(hk:2<=k)(hx:0<=x.l)(hl:cs.length=ws.length)(hb:bI ws (mY wd x) (wq wd x)=none)(z:Sep (aq d x::pt p (.lst (cs.map V.int))::O) H)
  (q:jv d p O Q (cY wd x cs ws)):ab tab R k p9 [.str wd.s,.ref d,.ref p] H Q E:=by
 refine wc (d:=gM) nofun rfl rfl ?_;obtain ⟨h,t,l,w,s,m⟩:=x;obtain ⟨b1,b2⟩:=hG hb;dsimp only at hx;cases wd
 case seek=>
  walk_at "wd";rename_i p0 H0 z0;refine fR (aX.of z0.at) rfl rfl ?_;left;refine aK (by decide+kernel) ?_;left;refine ⟨rfl,?_⟩;left;exact rg .seek (.inl rfl) nofun hl hb z0.drop q
 case mtch=>
  walk_at "wd";rename_i p0 H0 z0;refine fR (aX.of z0.at) rfl rfl ?_;left;refine aK (by decide+kernel) ?_;left;refine ⟨rfl,?_⟩;left;exact rg .mtch (.inr rfl) nofun hl hb z0.drop q
 case copy=>
  have q:jv d p O Q (lG ⟨h,t,l,w,s,m⟩ cs ws):=q;walk_at "wd";rename_i p0 H0 z0;refine fR (aX.of z0.at) rfl rfl ?_;left;refine ak (by decide+kernel) ?_
  replace z0:=z0.drop
  walk_at "wd";refine az (λe=>?_) (λe=>?_)
  ·rw[lG,if_pos e] at q;walk_at "wd";exact q _ z0
  have b1:aZ ws "look" [h]=none:=(congrArg _ (if_neg e)).symm.trans b1;have b2:aZ ws "put" [t]=none:=(congrArg _ (if_neg e)).symm.trans b2;have m1:=(aF b1).1;have m2:=(aF b2).1;obtain ⟨g1,g2⟩:=av m1;obtain ⟨g3,g4⟩:=av m2;rw[lG,if_neg e,hm,if_pos m1,if_pos m2] at q;walk_at "wd";refine aD (by grind) (iO g1 nofun) ?_;walk_at "wd";refine dS z0 (.t .e) (cI g3 (by rw[ce];omega)) cP (λH1 z1=>?_);walk_at "wd"
  repeat walk_at "sc"
  walk_at "wd";rename_i H2 z2 H3 z3 H4 z4;rw[Bs] at z4;rw[nE,Bs];exact q _ z4
 case fill=>
  have q:jv d p O Q (lT ⟨h,t,l,w,s,m⟩ cs ws):=q;walk_at "wd";rename_i p0 H0 z0;refine fR (aX.of z0.at) rfl rfl ?_;left;refine ak (by decide+kernel) ?_
  replace z0:=z0.drop
  walk_at "wd";refine az (λe=>?_) (λe=>?_)
  ·rw[lT,if_pos e] at q;walk_at "wd";exact q _ z0
  have b2:aZ ws "put" [t]=none:=(congrArg _ (if_neg e)).symm.trans b2;have m2:=(aF b2).1;obtain ⟨g3,g4⟩:=av m2;rw[lT,if_neg e,if_pos m2] at q;walk_at "wd";refine dS z0 (.t .e) (cI g3 (by rw[ce];omega)) cP (λH1 z1=>?_);walk_at "wd"
  repeat walk_at "sc"
  walk_at "wd";rename_i H2 z2 H3 z3;rw[Bs] at z3;rw[nE,Bs];exact q _ z3
 case shift=>
  have q:jv d p O Q (gG ⟨h,t,l,w,s,m⟩ cs ws):=q;walk_at "wd";rename_i p0 H0 z0;refine fR (aX.of z0.at) rfl rfl ?_;left;refine ak (by decide+kernel) ?_
  replace z0:=z0.drop
  walk_at "wd";refine az (λe=>?_) (λe=>?_)
  ·rw[gG,if_pos e] at q;walk_at "wd";exact q _ z0
  rw[gG,if_neg e] at q;have b1:aZ ws "look" (DH h t l .shift)=none:=(congrArg _ (if_neg e)).symm.trans b1;have b2:aZ ws "put" (BO h t l .shift)=none:=(congrArg _ (if_neg e)).symm.trans b2;walk_at "wd"
  by_cases e2:t<=h
  ·have b1:aZ ws "look" [h+0]=none:=(congrArg _ (if_pos e2)).symm.trans b1;have b2:aZ ws "put" [t+0]=none:=(congrArg _ (if_pos e2)).symm.trans b2;rw[Int.add_zero] at b1 b2;have m1:=(aF b1).1;have m2:=(aF b2).1;obtain ⟨g1,g2⟩:=av m1;obtain ⟨g3,g4⟩:=av m2;rw[if_pos e2,hm,if_pos m1,if_pos m2] at q;refine aK (decide_eq_true e2) ?_;walk_at "wd";refine aD (by grind) (iO g1 nofun) ?_;walk_at "wd";refine dS z0 (.t .e) (cI g3 (by rw[ce];omega)) cP (λH1 z1=>?_);walk_at "wd"
   repeat walk_at "sc"
   walk_at "wd";rename_i H2 z2 H3 z3 H4 z4;rw[Bs] at z4;rw[nE,Bs];exact q _ z4
  ·have b1:aZ ws "look" [h+(l-1)]=none:=(congrArg _ (if_neg e2)).symm.trans b1;have b2:aZ ws "put" [t+(l-1)]=none:=(congrArg _ (if_neg e2)).symm.trans b2;rw[show h+(l-1)=h+l-1 by omega] at b1;rw[show t+(l-1)=t+l-1 by omega] at b2;have m1:=(aF b1).1;have m2:=(aF b2).1;obtain ⟨g1,g2⟩:=av m1;obtain ⟨g3,g4⟩:=av m2;rw[if_neg e2,hm,if_pos m1,if_pos m2] at q;refine ak (decide_eq_false e2) ?_;walk_at "wd";refine aD (by grind) (iO g1 nofun) ?_;walk_at "wd";refine dS z0 (.t .e) (cI g3 (by rw[ce];omega)) cP (λH1 z1=>?_);walk_at "wd"
   repeat walk_at "sc"
   walk_at "wd";rename_i H2 z2;rw[Bs] at z2;rw[nE,Bs];exact q _ z2
 case turn=>
  have q:jv d p O Q (kW ⟨h,t,l,w,s,m⟩ cs ws):=q;walk_at "wd";rename_i p0 H0 z0;refine fR (aX.of z0.at) rfl rfl ?_;left;refine ak (by decide+kernel) ?_
  replace z0:=z0.drop
  walk_at "wd";refine az (λe=>?_) (λe=>?_)
  ·rw[kW,if_pos e] at q;walk_at "wd";exact q _ z0
  rw[kW,if_neg e] at q;have b1:aZ ws "look" (DH h t l .turn)=none:=(congrArg _ (if_neg e)).symm.trans b1;have b2:aZ ws "put" (BO h t l .turn)=none:=(congrArg _ (if_neg e)).symm.trans b2;walk_at "wd"
  repeat walk_at "sc"
  refine ax (λe2=>?_) (λe2=>?_)
  ·have b1:aZ ws "look" [h,h+l-1]=none:=(congrArg _ (if_neg nofun)).symm.trans b1;have b2:aZ ws "put" [h,h+l-1]=none:=(congrArg _ (if_neg nofun)).symm.trans b2;obtain ⟨m1,b1⟩:=aF b1;obtain ⟨m3,b2⟩:=aF b2;have m2:=(aF b1).1;have m4:=(aF b2).1;obtain ⟨g1,g2⟩:=av m1;obtain ⟨g3,g4⟩:=av m2;rw[if_neg (show ¬ l=1 by omega),xm,if_pos m1,if_pos m2,if_pos m3,if_pos m4] at q;walk_at "wd";refine aD (by grind) (iO g1 nofun) ?_;walk_at "wd";refine aD (by grind) (iO g3 nofun) ?_;walk_at "wd";refine dS z0 (.t .e) (cI g1 (by rw[ce];omega)) cP (λH1 z1=>?_);walk_at "wd";refine dS z1 (.t .e) (cI g3 (by rw[ce,length_set];omega)) cP (λH2 z2=>?_);walk_at "wd";rename_i H3 z3 H4 z4;rw[Mz] at z4;rw[nE,Mz];exact q _ z4
  ·have e1:l=1:=by omega
   subst e1;rw[if_pos rfl] at q;walk_at "wd";rename_i H3 z3;rw[nE];exact q _ z3
def jw {ls ps:List Int}{v:Str×Int}{a:Out}(h:bI ws (c::ls) ps=some v)(k:bI ws ls ps=some v->a=.no v.1 v.2):(if ai ws "look" c=true then a else .no "look" c)=.no v.1 v.2:=by
 unfold bI at h k;rw[aZ] at h
 by_cases e:ai ws "look" c=true
 ·rw[if_pos e] at h⊢;exact k h
 ·rw[if_neg e] at h⊢;cases h;rfl
def nK {ps:List Int}{v:Str×Int}{a:Out}(h:bI ws [] (c::ps)=some v)(k:bI ws [] ps=some v->a=.no v.1 v.2):(if ai ws "put" c=true then a else .no "put" c)=.no v.1 v.2:=by
 have h:aZ ws "put" (c::ps)=some v:=h;unfold aZ at h
 by_cases e:ai ws "put" c=true
 ·rw[if_pos e] at h⊢;exact k h
 ·rw[if_neg e] at h⊢;cases h;rfl
def jA {v:Str×Int}{a:Out}(h:bI ws [] []=some v):a=.no v.1 v.2:=nomatch (show none=some v from h)
def FZ {dd:Str}(hx:0<=x.l)(hb:bI ws (mY wd x) (wq wd x)=some (dd,c)):cY wd x cs ws=.no dd c:=by
 obtain ⟨h,t,l,w,s,m⟩:=x
 by_cases e:l=0
 ·have e1:mY wd ⟨h,t,l,w,s,m⟩=[]:=if_pos e;have e2:wq wd ⟨h,t,l,w,s,m⟩=[]:=if_pos e;rw[e1,e2] at hb;cases hb
 have e1:mY wd ⟨h,t,l,w,s,m⟩=DH h t l wd:=if_neg e;have e2:wq wd ⟨h,t,l,w,s,m⟩=BO h t l wd:=if_neg e;rw[e1,e2] at hb;cases wd
 ·exact (if_neg e).trans (jw hb λhb=>nK hb jA)
 ·exact (if_neg e).trans (nK hb jA)
 ·exact (if_neg e).trans (jw hb jA)
 ·exact (if_neg e).trans (jw hb λhb=>jw hb jA)
 ·refine (if_neg e).trans ?_
  by_cases e2:t<=h
  ·rw[show DH h t l .shift=[h+0] from if_pos e2,show BO h t l .shift=[t+0] from if_pos e2,Int.add_zero,Int.add_zero] at hb;exact (if_pos e2).trans (jw hb λhb=>nK hb jA)
  ·rw[show DH h t l .shift=[h+(l-1)] from if_neg e2,show BO h t l .shift=[t+(l-1)] from if_neg e2,<-Int.add_sub_assoc,<-Int.add_sub_assoc] at hb;exact (if_neg e2).trans (jw hb λhb=>nK hb jA)
 ·refine (if_neg e).trans ?_
  by_cases e2:l=1
  ·rw[show DH h t l .turn=[] from if_pos e2,show BO h t l .turn=[] from if_pos e2] at hb;exact jA hb
  ·rw[show DH h t l .turn=[h,h+l-1] from if_neg e2,show BO h t l .turn=[h,h+l-1] from if_neg e2] at hb;exact (if_neg e2).trans (jw hb λhb=>jw hb λhb=>nK hb λhb=>nK hb jA)
end
def kX {xs:List α}(h0:0<=i)(h1:i<xs.length):∃ v,kG xs i=some v/\v ∈ xs:=by
 have hl:i.toNat<xs.length:=by omega
 refine ⟨xs[i.toNat],?_,getElem_mem hl⟩;have:=L2.n9 (li hl)
 rwa [Int.toNat_of_nonneg h0] at this
def dX (h0:0<=r)(h1:r<xs.length)(h:∀ v ∈ xs,P v):∃ v,kG xs r=some v/\P v:=by
 obtain ⟨v,hv,hm⟩:=kX h0 h1;exact ⟨v,hv,h v hm⟩
abbrev inR (lo hi:Int)(v:V):Prop:=∃ i,v=.int i/\lo<=i/\i<=hi
def inR.mk {lo hi:Int}(h0:lo<=i)(h1:i<=hi):inR lo hi (.int i):=⟨i,rfl,h0,h1⟩
def Lv {a b:V}(ha:P a)(hb:P b):∀ v ∈ [a,b],P v:=λv hv=>by
 simp only[nb,not_mem_nil,or_false] at hv;rcases hv with rfl|rfl<;>assumption
def Kx {a b c:V}(ha:P a)(hb:P b)(hc:P c):∀ v ∈ [a,b,c],P v:=λv hv=>by
 simp only[nb,not_mem_nil,or_false] at hv;rcases hv with rfl|rfl|rfl<;>assumption
def K1 {a b c d:V}(ha:P a)(hb:P b)(hc:P c)(hd:P d):∀ v ∈ [a,b,c,d],P v:=λv hv=>by
 simp only[nb,not_mem_nil,or_false] at hv;rcases hv with rfl|rfl|rfl|rfl<;>assumption
abbrev eU:Nat->mQ->mQ
 |0,b=>b
 |n+1,.cons _ r=>eU n r
 |_+1,.nil=>.nil
def qG {cs:List Int}{j:Int}{w:Str}(ro:Ro K R)(hk:3<=k)(z:Sep O H)(r:a9 (aS R a cs ws) (aS R a cs (bR w ws i.toNat (j-i).toNat)) O Γ')(h0:0<=i)(h1:i<=j)(h2:j<=ws.length)(hw:dH w=true)(q:∀ H',Sep Γ' H'->Q .non H'):ab tab R k fZ [.ref a,.int i,.int j,.str w] H Q E:=by
 obtain ⟨Δ,p1,p2⟩:=r.bO;obtain ⟨ok,z2⟩:=gR (z.pull p1);have hwi:aV ws.length (.int i) (.int j)=true:=by simp[aV,h0,h1,h2]
 refine BP (t1:="int") (t2:="int") (t3:="str") ro hk z2 (by rw[ce];exact ok.1) (by have:=ok.1;have:=ok.2.2.1;omega) rfl rfl rfl (λa' b' w' e1 e2 e3 _ _ H' z3=>?_) (λhb=>absurd hb ?_)
 ·cases e1;cases e2;cases e3;refine q H' (Sep.push p2 (jt ⟨?_,ok.2⟩ z3));rw[eK];exact ok.1
 ·rw[hwi];show ¬ (true&&dH w)=false;rw[hw]
  decide
abbrev Wd.cl:Wd->Nat
 | .copy=>GI
 | .fill=>F7
 | .seek=>HB
 | .mtch=>DI
 | .shift=>DG
 | .turn=>Hu
def Gq (wd:Wd)(hk:1<=k)(z:Sep O H)(q:∀ d H',Sep (dd R d wd.cl::O) H'->Q (.ref d) H'):ab tab R k rj [.str wd.s] H Q E:=by
 refine wc (d:=jy) nofun rfl rfl ?_;cases wd
 all_goals
  right
  repeat walk_at "sc"
  exact LR z (λx dx H1 z1=>q x H1 (LG z1))
def Gm {t p:Addr}(h1:H t=some (.tup (ns.map V.int)))(h2:H p=some (.tup (ns.map V.int))):gF R.K H 2 (.ref t) (.ref p) true:=
 ui (n:=0) h1 h2 rfl λj x y e1 e2=>by
  rw[e1] at e2;cases e2;rw[io] at e1;obtain ⟨i,_,rfl⟩:=nw.mp e1;exact fe (t:="int") rfl
def zT:(wK.zip (x.ls.map V.int)).map (·.2)=x.ls.map V.int:=rfl
def Bj {tp:Bool}{kvs:List (Key×V)}(s:Sep O H)(e:H d=some (.dK kvs))(h:∀ p H',H p=none->Sep (pt p (Hw tp (kvs.map (·.2)))::O) H'->Q (.ref p) H'):rA tp (.ref d) H Q:=by unfold rA;exact ⟨d,kvs,rfl,e,λp hp=>h p _ hp (s.new hp)⟩
def vL {p:Addr}(h1:H l=some (.lst (ws.map V.str)))(h2:H p=some (.lst (ws.map V.str))):gF R.K H 2 (.ref l) (.ref p) true:=
 qU (n:=0) h1 h2 λx hx=>by
  obtain ⟨z,_,rfl⟩:=List.mem_map.mp hx;exact ⟨"str",rfl⟩
inductive Bn where
 |h
 |t
 |l
 |w
 |s
 |m
abbrev Bn.j:Bn->Nat
 | .h=>0
 | .t=>1
 | .l=>2
 | .w=>3
 | .s=>4
 | .m=>5
abbrev Bn.nm:Bn->Str
 | .h=>"here"
 | .t=>"there"
 | .l=>"left"
 | .w=>"way"
 | .s=>"sign"
 | .m=>"met"
def Bn.at (b:Bn):qe[b.j]? =some b.nm:=by cases b<;>rfl
abbrev Bx.g (x:Bx):Bn->Int
 | .h=>x.h
 | .t=>x.t
 | .l=>x.l
 | .w=>x.w
 | .s=>x.s
 | .m=>x.m
abbrev Bx.p (x:Bx)(i:Int):Bn->Bx
 | .h=>⟨i,x.t,x.l,x.w,x.s,x.m⟩
 | .t=>⟨x.h,i,x.l,x.w,x.s,x.m⟩
 | .l=>⟨x.h,x.t,i,x.w,x.s,x.m⟩
 | .w=>⟨x.h,x.t,x.l,i,x.s,x.m⟩
 | .s=>⟨x.h,x.t,x.l,x.w,i,x.m⟩
 | .m=>⟨x.h,x.t,x.l,x.w,x.s,i⟩
def Bx.gl (x:Bx)(b:Bn):x.ls[b.j]? =some (x.g b):=by cases b<;>rfl
def Bx.pl (x:Bx)(i:Int)(b:Bn):x.ls.set b.j i=(x.p i b).ls:=by cases b<;>rfl
abbrev bg (b:Bn)(i:Int):Bool:=bB b.j (.int i)
def GR {b:Bn}(h:bg b i=true)(o:x.ok):(x.p i b).ok:=by
 obtain ⟨o1,o2,o3,o4,o5,o6⟩:=o;cases b
 ·have h:(decide (-1000000000<=i)&&decide (i<=1000000000))=true:=h;have h: -1000000000<=i/\i<=1000000000:=by simpa using h
  exact ⟨h,o2,o3,o4,o5,o6⟩
 ·have h:(decide (-1000000000<=i)&&decide (i<=1000000000))=true:=h;have h: -1000000000<=i/\i<=1000000000:=by simpa using h
  exact ⟨o1,h,o3,o4,o5,o6⟩
 ·have h:(decide (0<=i)&&decide (i<=1000000000))=true:=h;have h:0<=i/\i<=1000000000:=by simpa using h
  exact ⟨o1,o2,h,o4,o5,o6⟩
 ·have h:(i ==1||i == -1)=true:=h;have h:i=1\/i= -1:=by simpa using h
  exact ⟨o1,o2,o3,h,o5,o6⟩
 ·have h:(decide (0<=i)&&decide (i<=1000000000))=true:=h;have h:0<=i/\i<=1000000000:=by simpa using h
  exact ⟨o1,o2,o3,o4,h,o6⟩
 ·have h:(i ==0||i ==1)=true:=h;have h:i=0\/i=1:=by simpa using h
  exact ⟨o1,o2,o3,o4,o5,h⟩
def ET (h0:0<=r)(h1:r<6):∃ b:Bn,kG [V.str "here",V.str "there",V.str "left",V.str "way",V.str "sign",V.str "met"] r=some (.str b.nm):=by
 have:r=0\/r=1\/r=2\/r=3\/r=4\/r=5:=by omega
 rcases this with rfl|rfl|rfl|rfl|rfl|rfl
 ·exact ⟨.h,rfl⟩
 ·exact ⟨.t,rfl⟩
 ·exact ⟨.l,rfl⟩
 ·exact ⟨.w,rfl⟩
 ·exact ⟨.s,rfl⟩
 ·exact ⟨.m,rfl⟩
def La {b:Addr}{n:Bn}(ro:Ro K R)(hk:4<=k)(z:Sep (aJ R b x::O) H)(q0:bg n i=true->∀ H',Sep (aJ R b (x.p i n)::O) H'->Q .non H')
  (q1:bg n i=false->∀ e H',Sep (ma (R.cad cx) [("box",.str n.nm),("number",.int i)] e false::aJ R b x::O) H'->E e H'):ab tab R k aG [.ref b,.str n.nm,.int i] H Q E:=by
 cases h:bg n i with
 |true=>exact qQ ro hk z .e n.at h (x.pl i n) (GR h) (q0 h)
 |false=>
  obtain ⟨o,z2⟩:=d5 z;exact sM ro hk z2 n.at rfl h λe d H' z3=>q1 h e H' (jI (Sep.push (.t (.t .e)) (nc o (z3.pull (.t (.t .e))))))
def yq {b:Addr}{n:Bn}(ro:Ro K R)(hk:2<=k)(z:Sep O H)(p:ag (aJ R b x) O Δ)(q:Q (.int (x.g n)) H):ab tab R k aH [.ref b,.str n.nm] H Q E:=dO ro hk (d5 (z.pull p)).2 n.at (x.gl n) q
def mf {K:W.Frag}{n:Bn}(z:Sep O H)(p:ag (aq d x) O Δ)(q:Q (.int (x.g n)) H):qP K (.ref d) (.str n.nm) H Q:=by
 refine pd (k:=.inr n.nm) (v:=.int (x.g n)) (z.get p) ?_ q;cases n<;>rfl
def BK {n:Bn}{P:Hp->Prop}(z:Sep O H)(r:a9 (aq d x) (aq d (x.p i n)) O Γ')(q:∀ H',Sep Γ' H'->P H'):iS (.ref d) (.str n.nm) (.int i) H P:=qZ z r n.at (x.pl i n) q
inductive Sp where
 |set (b:Bn) (i:Int)
 |add (b:Bn) (i:Int)
 |take (b c:Bn)
 |read (b:Bn)
 |write (b:Bn)
abbrev Sp.w:Sp->Str
 | .set _ _=>"set"
 | .add _ _=>"add"
 | .take _ _=>"take"
 | .read _=>"read"
 | .write _=>"write"
abbrev Sp.b:Sp->Bn
 | .set b _=>b
 | .add b _=>b
 | .take b _=>b
 | .read b=>b
 | .write b=>b
abbrev Sp.tl:Sp->List V
 | .set b i=>[.str "set",.str b.nm,.int i]
 | .add b i=>[.str "add",.str b.nm,.int i]
 | .take b c=>[.str "take",.str b.nm,.str c.nm]
 | .read b=>[.str "read",.str b.nm]
 | .write b=>[.str "write",.str b.nm]
abbrev Sp.cl:Sp->Nat
 | .set _ _=>EX
 | .add _ _=>E5
 | .take _ _=>yj
 | .read _=>Bp
 | .write _=>vE
abbrev Sp.fs:Sp->List (Str×V)
 | .set b i=>[("box",.str b.nm),("number",.int i)]
 | .add b i=>[("box",.str b.nm),("number",.int i)]
 | .take b c=>[("box",.str b.nm),("other",.str c.nm)]
 | .read b=>[("box",.str b.nm)]
 | .write b=>[("box",.str b.nm)]
abbrev Sp.ok:Sp->Prop
 | .set _ i=>-1000000000<=i/\i<=1000000000
 | .add _ i=>-1000000000<=i/\i<=1000000000
 |_=>True
inductive wN where
 |on (x:Bx) (cs:List Int)
 |no (d:Str) (c:Int)
 |nf (b:Bn) (i:Int)
abbrev bq (x:Bx)(cs:List Int)(b:Bn)(i:Int):wN:=if bg b i=true then .on (x.p i b) cs else .nf b i
abbrev jY (x:Bx)(cs:List Int)(ws:List Str):Sp->wN
 | .set b i=>bq x cs b i
 | .add b i=>bq x cs b (x.g b+i)
 | .take b c=>bq x cs b (x.g c)
 | .read b=>if ai ws "look" x.h=true then bq x cs b (gt cs x.h) else .no "look" x.h
 | .write b=>if fO (.int (x.g b))=true then (if ai ws "put" x.t=true then .on x (cs.set x.t.toNat (x.g b)) else .no "put" x.t) else .nf b (x.g b)
abbrev sd (R:Rt)(d:Addr)(sp:Sp):aB:=bx λdx:Addr=>[pt d (.ins (R.cad sp.cl) dx sp.fs),pt dx (.own d)]
def zB (s:Sep (pt d (.ins (R.cad sp.cl) dx sp.fs)::pt dx (.own d)::O) H):Sep (sd R d sp::O) H:=fQ dx s
def sA (s:Sep O H)(p:ag (sd R d sp) O Δ):∃ dx,H d=some (.ins (R.cad sp.cl) dx sp.fs):=by
 obtain ⟨dx,s⟩:=iq (s.pull p);exact ⟨dx,Sep.at s⟩
abbrev eG (R:Rt)(b a:Addr)(x:Bx)(cs:List Int)(ws:List Str)(O:List aB)(Q:VK)(E:XK):wN->Prop
 | .on x' cs'=>∀ H',Sep (aJ R b x'::aS R a cs' ws::O) H'->Q (.int 1) H'
 | .no d c=>∀ e H',Sep (ma (R.cad bb) [("deed",.str d),("cell",.int c)] e false::aJ R b x::aS R a cs ws::O) H'->E e H'
 | .nf n i=>∀ e H',Sep (ma (R.cad cx) [("box",.str n.nm),("number",.int i)] e false::aJ R b x::aS R a cs ws::O) H'->E e H'
def km {b:Addr}{cs:List Int}{n:Bn}(ro:Ro K R)(hk:4<=k)(z:Sep (aJ R b x::aS R a cs ws::O) H)(q:eG R b a x cs ws O (λ_=>Q .non) E (bq x cs n i)):ab tab R k aG [.ref b,.str n.nm,.int i] H Q E:=by
 unfold bq at q;refine La ro hk z (λh H' z'=>?_) (λh e H' z'=>?_)
 ·rw[if_pos h] at q;exact q H' z'
 ·rw[if_neg (by rw[h];exact Bool.false_ne_true)] at q;exact q e H' z'
def eG.imp {b:Addr}{cs:List Int}{Q':VK}(h:∀ H',Q (.int 1) H'->Q' (.int 1) H'):∀ {o:wN},eG R b a x cs ws O Q E o->eG R b a x cs ws O Q' E o
 | .on _ _,q=>λH' z=>h _ (q H' z)
 | .no _ _,q=>q
 | .nf _ _,q=>q
def Jr:Ob R (sd R d sp) d sp.cl (sp.fs.map (·.1)):=by
 rintro H D ⟨dx,D1,D2,_,_,_,⟨_,h⟩,_⟩;exact ⟨dx,_,h,rfl⟩
def B1 (sp:Sp)(ro:Ro K R):∃ f,tab.me.lookup (sp.cl,("step":Str))=some f/\(∀ Ψ,dflt ⟨tab,R,Ψ,true⟩ f 3=[])/\∀ {k:Nat}{de b a:Addr}{x:Bx}{cs:List Int}{ws:List Str}{O:List aB}{H:Hp}{Q:VK}{E:XK},5<=k->Sep (aJ R b x::aS R a cs ws::sd R de sp::O) H->eG R b a x cs ws (sd R de sp::O) Q E (jY x cs ws sp)->ab tab R k f [.ref de,.ref b,.ref a] H Q E:=by
 cases sp with
 |set n i=>
  refine ⟨uy,rfl,λ_=>rfl,λ{k de b a x cs ws O H Q E} hk z q=>wc (d:=la) nofun rfl rfl ?_⟩;obtain ⟨dx,e⟩:=sA z (by symm);right;refine ae bj z (by symm) rfl rfl ?_;left;refine cO e rfl rfl rfl ?_;left;refine cO e rfl rfl rfl ?_;left;refine aW (vs':=[_,_,_]) rfl ?_;exact km ro nofun z (eG.imp (Q:=Q) (λH' h=>h) q)
 |add n i=>
  refine ⟨t4,rfl,λ_=>rfl,λ{k de b a x cs ws O H Q E} hk z q=>wc (d:=lb) nofun rfl rfl ?_⟩;obtain ⟨dx,e⟩:=sA z (by symm);right;refine ae bj z (by symm) rfl rfl ?_;left;refine cO e rfl rfl rfl ?_;right;refine ae bj z (by symm) rfl rfl ?_;left;refine cO e rfl rfl rfl ?_;left;refine aW (vs':=[_,_]) rfl ?_;refine yq (n:=n) ro nofun z (by symm) ?_;left;refine cO e rfl rfl rfl ?_;right;refine aW (vs':=[_,_,_]) rfl ?_;exact km ro nofun z (eG.imp (Q:=Q) (λH' h=>h) q)
 |take n m=>
  refine ⟨rH,rfl,λ_=>rfl,λ{k de b a x cs ws O H Q E} hk z q=>wc (d:=jB) nofun rfl rfl ?_⟩;obtain ⟨dx,e⟩:=sA z (by symm);right;refine ae bj z (by symm) rfl rfl ?_;left;refine cO e rfl rfl rfl ?_;right;refine ae bj z (by symm) rfl rfl ?_;left;refine cO e rfl rfl rfl ?_;left;refine aW (vs':=[_,_]) rfl ?_;refine yq (n:=m) ro nofun z (by symm) ?_;left;refine aW (vs':=[_,_,_]) rfl ?_;exact km ro nofun z (eG.imp (Q:=Q) (λH' h=>h) q)
 |read n=>
  refine ⟨qN,rfl,λ_=>rfl,λ{k de b a x cs ws O H Q E} hk z q=>wc (d:=jR) nofun rfl rfl ?_⟩;obtain ⟨dx,e⟩:=sA z (by symm);right;refine ae bj z (by symm) rfl rfl ?_;left;refine cO e rfl rfl rfl ?_;right;refine ae bp z (by symm) rfl rfl ?_;right;refine ae bj z (by symm) rfl rfl ?_;left;refine aW (vs':=[_,_]) rfl ?_;refine yq (n:=.h) ro nofun z (by symm) ?_;left;refine aW (vs':=[_,_]) rfl ?_;have q:eG R b a x cs ws (sd R de (.read n)::O) Q E (if ai ws "look" x.h=true then bq x cs n (gt cs x.h) else .no "look" x.h):=q;refine dC (i:=x.h) nofun z (by symm) (λh=>?_) (λh e H' z'=>?_)
  ·rw[if_pos h] at q;left;refine aW (vs':=[_,_,_]) rfl ?_;exact km ro nofun z (eG.imp (Q:=Q) (λH' h=>h) q)
  ·rw[if_neg (by rw[h];exact Bool.false_ne_true)] at q;exact q e H' z'
 |write n=>
  refine ⟨oq,rfl,λ_=>rfl,λ{k de b a x cs ws O H Q E} hk z q=>wc (d:=iI) nofun rfl rfl ?_⟩;obtain ⟨dx,e⟩:=sA z (by symm);have q:eG R b a x cs ws (sd R de (.write n)::O) Q E (if fO (.int (x.g n))=true then (if ai ws "put" x.t=true then .on x (cs.set x.t.toNat (x.g n)) else .no "put" x.t) else .nf n (x.g n)):=q;right;refine ae bj z (by symm) rfl rfl ?_;left;refine cO e rfl rfl rfl ?_;left;refine aW (vs':=[_,_]) rfl ?_;refine yq (n:=n) ro nofun z (by symm) ?_;right;refine cy (t:="int") ro nofun rfl ?_;cases hc:fO (.int (x.g n)) with
  |false=>
   rw[if_neg (by rw[hc];exact Bool.false_ne_true)] at q;right;refine cO e rfl rfl rfl ?_;right;intro ex he;refine hE nofun (z.new he) (λd H3 hs3=>⟨rfl,?_⟩);exact fu (G:=⟨tab,R,ab tab R (k-1),true⟩) hs3 .e rfl (λH4 hs4=>q ex H4 (jI hs4))
  |true=>
   rw[if_pos hc] at q;right;refine ae bp z (by symm) rfl rfl ?_;right;refine ae bj z (by symm) rfl rfl ?_;left;refine aW (vs':=[_,_]) rfl ?_;refine yq (n:=.t) ro nofun z (by symm) ?_;left;refine aW (vs':=[_,_,_]) rfl ?_;have hc2:0<=x.g n/\x.g n<=1000000000:=by
    have hc3:(decide (0<=x.g n)&&decide (x.g n<=1000000000))=true:=hc;simpa using hc3
   refine lE (i:=x.t) nofun z (by ac_rfl) hc2 (λh H' z'=>?_) (λh e H' z'=>?_)
   ·rw[if_pos h] at q;exact q H' z'
   ·rw[if_neg (by rw[h];exact Bool.false_ne_true)] at q;exact q e H' z'
def bG {w:Str}{n:Bn}(ro:Ro K R)(hk:2<=k)(q:Q .non H):ab tab R k rB [.str w,.str n.nm] H Q E:=by
 refine wc (d:=jj) nofun rfl rfl ?_;right;refine pC (t:="str") ro nofun rfl ?_;rw[uz n.at];right;exact q
def eI {w:Str}(ro:Ro K R)(hk:3<=k)(h0: -1000000000<=i)(h1:i<=1000000000)(q:Q .non H):ab tab R k lz [.str w,.int i] H Q E:=by
 refine wc (d:=fj) nofun rfl rfl ?_;right;refine eZ (t:="int") ro nofun rfl ?_;rw[show fm (.int i)=true by simp[fm,h0,h1]];right;exact q
def Iz {x:Addr}{n:Bn}(ro:Ro K R)(hk:4<=k)(h0: -1000000000<=i)(h1:i<=1000000000)(z:Sep (pt x (.ins (R.cad EX) dx [])::pt dx (.own x)::O) H)(q:∀ H',Sep (sd R x (.set n i)::O) H'->Q .non H'):ab tab R k k7 [.ref x,.str n.nm,.int i] H Q E:=by
 refine wc (d:=fz) nofun rfl rfl ?_;right;refine bG ro nofun ?_;right;refine eI ro nofun h0 h1 ?_;right;exact q _ (zB (by assumption))
def JO {x:Addr}{n:Bn}(ro:Ro K R)(hk:4<=k)(h0: -1000000000<=i)(h1:i<=1000000000)(z:Sep (pt x (.ins (R.cad E5) dx [])::pt dx (.own x)::O) H)(q:∀ H',Sep (sd R x (.add n i)::O) H'->Q .non H'):ab tab R k lh [.ref x,.str n.nm,.int i] H Q E:=by
 refine wc (d:=eE) nofun rfl rfl ?_;right;refine bG ro nofun ?_;right;refine eI ro nofun h0 h1 ?_;right;exact q _ (zB (by assumption))
def Ji {x:Addr}{n m:Bn}(ro:Ro K R)(hk:4<=k)(z:Sep (pt x (.ins (R.cad yj) dx [])::pt dx (.own x)::O) H)(q:∀ H',Sep (sd R x (.take n m)::O) H'->Q .non H'):ab tab R k ke [.ref x,.str n.nm,.str m.nm] H Q E:=by
 refine wc (d:=dR) nofun rfl rfl ?_;right;refine bG ro nofun ?_;right;refine bG ro nofun ?_;right;exact q _ (zB (by assumption))
def Iw {x:Addr}{n:Bn}(ro:Ro K R)(hk:4<=k)(z:Sep (pt x (.ins (R.cad Bp) dx [])::pt dx (.own x)::O) H)(q:∀ H',Sep (sd R x (.read n)::O) H'->Q .non H'):ab tab R k j8 [.ref x,.str n.nm] H Q E:=by
 refine wc (d:=dU) nofun rfl rfl ?_;right;refine bG ro nofun ?_;right;exact q _ (zB (by assumption))
def IE {x:Addr}{n:Bn}(ro:Ro K R)(hk:4<=k)(z:Sep (pt x (.ins (R.cad vE) dx [])::pt dx (.own x)::O) H)(q:∀ H',Sep (sd R x (.write n)::O) H'->Q .non H'):ab tab R k i3 [.ref x,.str n.nm] H Q E:=by
 refine wc (d:=dq) nofun rfl rfl ?_;right;refine bG ro nofun ?_;right;exact q _ (zB (by assumption))
abbrev kS:V->Bool
 | .int i=>decide (0<=i)&&decide (i<=24)
 |_=>false
abbrev HY:V->Bool
 | .non=>true
 | .int i=>i ==0||i ==1
 |_=>false
def xK (ro:Ro K R)(hk:2<=k)(ht:tyName v H=some t)(q:Q (.bl (kS v)) H):ab tab R k xA [v] H Q E:=by
 refine wc (d:=nG) nofun rfl rfl ?_;right;refine aI nofun ht ?_;cases d4 ht
 case int i=>
  right;refine ax (λh0=>?_) (λh0=>?_)
  ·left;simp only[ro.g_MOST_HOPPED];right;rw[show kS (.int i)=decide (i<=24) by simp[kS,h0]] at q;exact q
  ·right;rw[show kS (.int i)=false by simp[kS,h0]] at q;exact q
 all_goals
  right;exact q
def DF (hk:2<=k)(ht:tyName v H=some t)(q:Q (.bl (HY v)) H):ab tab R k Ea [v] H Q E:=by
 refine wc (d:=uS) nofun rfl rfl ?_;right;refine gK ?_;cases d4 ht
 case int i=>
  left;refine ak rfl ?_;right;refine aI (t:="int") nofun rfl ?_;right;refine az (λh0=>?_) (λh0=>?_)
  ·right;rw[show HY (.int i)=true by simp[HY,h0]] at q;exact q
  ·right;rw[show HY (.int i)=(i ==1) by simp[HY,h0]] at q;exact q
 case non=>
  left;refine aK rfl ?_;exact q
 all_goals
  left;refine ak rfl ?_;right;refine aI nofun ht ?_;right;exact q
abbrev oV:Option Int->V
 |none=>.non
 |some i=>.int i
abbrev KS:Option Int->Prop
 |none=>True
 |some i=>i=0\/i=1
abbrev HR (R:Rt)(d:Addr)(n:Int)(o:Option Int):aB:=bx λdx:Addr=>[pt d (.ins (R.cad nN) dx [("many",.int n),("on",oV o)]),pt dx (.own d)]
def KW {n:Int}(s:Sep (pt d (.ins (R.cad nN) dx [("many",.int n),("on",oV o)])::pt dx (.own d)::O) H):Sep (HR R d n o::O) H:=fQ dx s
def Jc {n:Int}(s:Sep O H)(p:ag (HR R d n o) O Δ):∃ dx,H d=some (.ins (R.cad nN) dx [("many",.int n),("on",oV o)]):=by
 obtain ⟨dx,s⟩:=iq (s.pull p);exact ⟨dx,Sep.at s⟩
def IF {n:Int}:Ob R (HR R d n o) d nN ["many","on"]:=by
 rintro H D ⟨dx,D1,D2,_,_,_,⟨_,h⟩,_⟩;exact ⟨dx,_,h,rfl⟩
def IA {x:Addr}{n:Int}(ro:Ro K R)(hk:4<=k)(h0:0<=n)(h1:n<=24)(ho:KS o)(z:Sep (pt x (.ins (R.cad nN) dx [])::pt dx (.own x)::O) H)(q:∀ H',Sep (HR R x n o::O) H'->Q .non H'):ab tab R k l0 [.ref x,.int n,oV o] H Q E:=by
 refine wc (d:=ff) nofun rfl rfl ?_;right;refine xK (t:="int") ro nofun rfl ?_;rw[show kS (.int n)=true by simp[kS,h0,h1]];right;obtain ⟨t,ht⟩:∃ t,tyName (oV o) H=some t:=by cases o<;>exact ⟨_,rfl⟩
 refine DF nofun ht ?_;rw[show HY (oV o)=true by cases o with|none=>rfl|some i=>rcases ho with rfl|rfl<;>rfl];right;exact q _ (KW (by assumption))
abbrev Kl (n:Int)(o:Option Int)(m:Int):Int:=match o with
 |none=>1+n
 |some i=>if i=m then 1+n else 1
def Cw {b:Addr}{n:Int}(ro:Ro K R)(hk:3<=k)(z:Sep O H)(p1:ag (HR R d n o) O Δ){Δ':List aB}(p2:ag (aJ R b x) O Δ')(q:Q (.int (Kl n o x.m)) H):ab tab R k kK [.ref d,.ref b,v] H Q E:=by
 refine wc (d:=kU) nofun rfl rfl ?_;obtain ⟨dx,e⟩:=Jc z p1;right;refine cO e rfl rfl rfl ?_;right;refine gK ?_;cases o with
 |none=>
  left;refine aK rfl ?_;right;refine cO e rfl rfl rfl ?_;right;exact q
 |some i=>
  left;refine ak rfl ?_;right;refine cO e rfl rfl rfl ?_;right;refine ae bj z p2 rfl rfl ?_;left;refine aW (vs':=[_,_]) rfl ?_;obtain ⟨h,t,l,w,s,m⟩:=x;refine JM ro nofun z p2 ?_;right;have q:Q (.int (if i=m then 1+n else 1)) H:=q;refine az (λh0=>?_) (λh0=>?_)
  ·rw[if_pos h0] at q;right;refine cO e rfl rfl rfl ?_;right;exact q
  ·rw[if_neg h0] at q;right;exact q
def step_any (wd:Wd)(ro:Ro K R):∃ f,tab.me.lookup (wd.cl,("step":Str))=some f/\(∀ Ψ,dflt ⟨tab,R,Ψ,true⟩ f 3=[])/\∀ {k:Nat}{v:V}{b a:Addr}{x:Bx}{cs:List Int}{ws:List Str}{O:List aB}{H:Hp}{Q:VK}{E:XK},8<=k->Sep (aJ R b x::aS R a cs ws::O) H->ua R b a x cs ws O Q E (cY wd x cs ws)->ab tab R k f [v,.ref b,.ref a] H Q E:=by
 cases wd
 ·exact ⟨jz,rfl,λ_=>rfl,λhk z q=>CT ro hk z q⟩
 ·exact ⟨js,rfl,λ_=>rfl,λhk z q=>BR ro hk z q⟩
 ·exact ⟨jN,rfl,λ_=>rfl,λhk z q=>B9 ro hk z q⟩
 ·exact ⟨ig,rfl,λ_=>rfl,λhk z q=>Ak ro hk z q⟩
 ·exact ⟨iM,rfl,λ_=>rfl,λhk z q=>zI ro nofun z q⟩
 ·exact ⟨jE,rfl,λ_=>rfl,λhk z q=>BH ro nofun z q⟩
def kB {n:Bn}(hk:1<=k)(q:Q (.bl (bg n i)) H):ab tab R k se [.str n.nm,.int i] H Q E:=by
 refine wc (d:=jL) nofun rfl rfl ?_;cases n
 all_goals right
 all_goals repeat walk_at "sc"
 ·rw[iN];refine ax (λh0=>?_) (λh0=>?_)
  ·right;rw[iN];rw[show bg .h i=decide (i<=1000000000) by simp[bg,Bn.j,bB,fm,h0]] at q;exact q
  ·right;rw[show bg .h i=false by simp[bg,Bn.j,bB,fm,h0]] at q;exact q
 ·rw[iN];refine ax (λh0=>?_) (λh0=>?_)
  ·right;rw[iN];rw[show bg .t i=decide (i<=1000000000) by simp[bg,Bn.j,bB,fm,h0]] at q;exact q
  ·right;rw[show bg .t i=false by simp[bg,Bn.j,bB,fm,h0]] at q;exact q
 ·refine ax (λh0=>?_) (λh0=>?_)
  ·right;rw[iN];rw[show bg .l i=decide (i<=1000000000) by simp[bg,Bn.j,bB,fO,h0]] at q;exact q
  ·right;rw[show bg .l i=false by simp[bg,Bn.j,bB,fO,h0]] at q;exact q
 ·refine az (λh0=>?_) (λh0=>?_)
  ·right;rw[show bg .w i=true by simp[bg,Bn.j,bB,md,h0]] at q;exact q
  ·right;rw[show bg .w i=(i == -1) by simp[bg,Bn.j,bB,md,h0]] at q;exact q
 ·refine ax (λh0=>?_) (λh0=>?_)
  ·right;rw[iN];rw[show bg .s i=decide (i<=1000000000) by simp[bg,Bn.j,bB,fO,h0]] at q;exact q
  ·right;rw[show bg .s i=false by simp[bg,Bn.j,bB,fO,h0]] at q;exact q
 ·refine az (λh0=>?_) (λh0=>?_)
  ·right;rw[show bg .m i=true by simp[bg,Bn.j,bB,md,h0]] at q;exact q
  ·right;rw[show bg .m i=(i ==1) by simp[bg,Bn.j,bB,md,h0]] at q;exact q
inductive Rw where
 |lg (w:Wd)
 |sp (s:Sp)
 |hop (n:Int) (o:Option Int)
abbrev Rw.tl:Rw->List V
 | .lg w=>[.str w.s]
 | .sp s=>s.tl
 | .hop n o=>[.str "hop",.int n,oV o]
abbrev Rw.ok:Rw->Prop
 | .lg _=>True
 | .sp s=>s.ok
 | .hop n o=>(0<=n/\n<=24)/\KS o
abbrev Rw.cl:Rw->Nat
 | .lg w=>w.cl
 | .sp s=>s.cl
 | .hop _ _=>nN
abbrev nA (R:Rt)(d:Addr):Rw->aB
 | .lg w=>dd R d w.cl
 | .sp s=>sd R d s
 | .hop n o=>HR R d n o
abbrev Rw.fs:Rw->List Str
 | .lg _=>[]
 | .sp s=>s.fs.map (·.1)
 | .hop _ _=>["many","on"]
def E6 (r:Rw):Ob R (nA R d r) d r.cl r.fs:=by
 cases r with
 |lg w=>exact JX
 |sp s=>exact Jr
 |hop n o=>exact IF
def Jo {r:Rw}(z:Sep O H)(p:ag (nA R d r) O Δ):∃ dx fs,H d=some (.ins (R.cad r.cl) dx fs):=by
 obtain ⟨D,k,D1,D2,s1,s2,dj,h1,h2⟩:=z.pull p;obtain ⟨dx,fs,e,_⟩:=E6 r H D1 h1;exact ⟨dx,fs,e⟩
inductive lR where
 |on (r:Int) (x:Bx) (cs:List Int)
 |no (d:Str) (c:Int)
 |nf (b:Bn) (i:Int)
abbrev ofM:Out->lR
 | .on r x cs=>.on r x cs
 | .no d c=>.no d c
abbrev j0:wN->lR
 | .on x cs=>.on 1 x cs
 | .no d c=>.no d c
 | .nf b i=>.nf b i
abbrev eX (x:Bx)(cs:List Int)(ws:List Str):Rw->lR
 | .lg w=>ofM (cY w x cs ws)
 | .sp s=>j0 (jY x cs ws s)
 | .hop n o=>.on (Kl n o x.m) x cs
abbrev zW (R:Rt)(b a:Addr)(x:Bx)(cs:List Int)(ws:List Str)(O:List aB)(Q:VK)(E:XK):lR->Prop
 | .on r x' cs'=>∀ H',Sep (aJ R b x'::aS R a cs' ws::O) H'->Q (.int r) H'
 | .no d c=>∀ e H',Sep (ma (R.cad bb) [("deed",.str d),("cell",.int c)] e false::aJ R b x::aS R a cs ws::O) H'->E e H'
 | .nf n i=>∀ e H',Sep (ma (R.cad cx) [("box",.str n.nm),("number",.int i)] e false::aJ R b x::aS R a cs ws::O) H'->E e H'
def B7 (r:Rw)(ro:Ro K R):∃ f,tab.me.lookup (r.cl,("step":Str))=some f/\(∀ Ψ,dflt ⟨tab,R,Ψ,true⟩ f 3=[])/\∀ {k:Nat}{de b a:Addr}{x:Bx}{cs:List Int}{ws:List Str}{O:List aB}{H:Hp}{Q:VK}{E:XK},8<=k->Sep (aJ R b x::aS R a cs ws::nA R de r::O) H->zW R b a x cs ws (nA R de r::O) Q E (eX x cs ws r)->ab tab R k f [.ref de,.ref b,.ref a] H Q E:=by
 cases r with
 |lg w=>
  obtain ⟨f,hf,hd,hs⟩:=step_any w ro;refine ⟨f,hf,hd,λ{k de b a x cs ws O H Q E} hk z q=>hs hk z ?_⟩;have q:zW R b a x cs ws (nA R de (.lg w)::O) Q E (ofM (cY w x cs ws)):=q
  revert q
  cases cY w x cs ws<;>exact λq=>q
 |sp s=>
  obtain ⟨f,hf,hd,hs⟩:=B1 s ro;refine ⟨f,hf,hd,λ{k de b a x cs ws O H Q E} hk z q=>hs nofun z ?_⟩;have q:zW R b a x cs ws (nA R de (.sp s)::O) Q E (j0 (jY x cs ws s)):=q
  revert q
  cases jY x cs ws s<;>exact λq=>q
 |hop n o=>
  refine ⟨kK,rfl,λ_=>rfl,λ{k de b a x cs ws O H Q E} hk z q=>?_⟩;exact Cw ro nofun z (.t (.t .e)) .e (q H z)
def xY {cs:List Int}(ro:Ro K R)(hk:5<=k)(z:Sep O H)(p:ag (aS R a cs ws) O Δ)(q:∀ c H',Sep (aS R c cs ws::O) H'->Q (.ref c) H'):ab tab R k lq [.ref a] H Q E:=by
 refine wc (d:=eD) nofun rfl rfl ?_;have ok:=cJ z p;right;rename_i l H1 z1;intro c dx g1 g2 g3;refine nY (cs:=[0]) ro nofun (by decide) (by decide) (λi hi=>by rw[mem_singleton.mp hi];decide) (hR z1 g1 g2 g3) .e (λH2 z2=>⟨rfl,?_⟩);obtain ⟨_,z3⟩:=gR z2;obtain ⟨dx1,c1,d1,z4⟩:=bK z3;obtain ⟨_,z5⟩:=gR (z4.pull (.t (.t (.t (.t (.t p))))));obtain ⟨dx2,c2,d2,z6⟩:=bK z5;clear z1 z2 z3 z4 z5;right;rename_i l3 H3 z7 H4 z8 l5 H5 z9 H6 z10;refine q c H6 ?_;have z11:Sep (pt c (.ins (R.cad ar) dx1 [("contents",.ref l3),("permits",.ref l5)])::pt dx1 (.own c)::pt l3 (.lst (cs.map V.int))::pt l5 (.lst (ws.map V.str))::pt a (.ins (R.cad ar) dx2 [("contents",.ref c2),("permits",.ref d2)])::pt dx2 (.own a)::pt c2 (.lst (cs.map V.int))::pt d2 (.lst (ws.map V.str))::Δ) H6:=z10.sub (by ac_nf);have z12:=jt ok (dy z11);have z13:Sep (pt a (.ins (R.cad ar) dx2 [("contents",.ref c2),("permits",.ref d2)])::pt dx2 (.own a)::pt c2 (.lst (cs.map V.int))::pt d2 (.lst (ws.map V.str))::aS R c cs ws::Δ) H6:=z12.sub (by ac_nf);exact Sep.push (.t p) (jt ok (dy z13))
def wg {b:Addr}(ro:Ro K R)(hk:5<=k)(z:Sep O H)(p:ag (aJ R b x) O Δ)(q:∀ c H',Sep (aJ R c x::O) H'->Q (.ref c) H'):ab tab R k eJ [.ref b] H Q E:=by
 obtain ⟨o,z2⟩:=d5 (z.pull p);refine wA ro hk z2 (λc H' z3=>q c H' ?_);have z4:=nc o z3;have z5:=nc o (z4.pull (.t .e));exact Sep.push (.t p) z5
abbrev k8 (R:Rt)(m l s b:Addr)(at_:Int)(ds:List V):aB:=bx λdx:Addr=>[pt m (.ins (R.cad ba) dx [("deeds",.ref l),("store",.ref s),("boxes",.ref b),("at",.int at_)]),pt dx (.own m),pt l (.lst ds)]
def wz {m s b:Addr}(z:Sep (k8 R m l s b at_ ds::O) H):∃ dx,Sep (pt m (.ins (R.cad ba) dx [("deeds",.ref l),("store",.ref s),("boxes",.ref b),("at",.int at_)])::pt dx (.own m)::pt l (.lst ds)::O) H:=iq z
def DP {m s b:Addr}(z:Sep (pt m (.ins (R.cad ba) dx [("deeds",.ref l),("store",.ref s),("boxes",.ref b),("at",.int at_)])::pt dx (.own m)::pt l (.lst ds)::O) H):Sep (k8 R m l s b at_ ds::O) H:=fQ dx z
def uR {m s b:Addr}:Ob R (k8 R m l s b at_ ds) m ba ["deeds","store","boxes","at"]:=by
 rintro H D ⟨dx,D1,D2,_,_,_,⟨_,h⟩,_⟩;exact ⟨dx,_,h,rfl⟩
abbrev Hh (R:Rt)(O:List aB)(ds:List V):Prop:=∀ v ∈ ds,∃ a r Δ,v=.ref a/\ag (nA R a r) O Δ
def uP (r:Rw):tab.oc.contains r.cl=true/\tab.sub.lookup (r.cl,Fn)=some true:=by
 cases r with
 |lg w=>cases w<;>exact ⟨rfl,rfl⟩
 |sp s=>cases s<;>exact ⟨rfl,rfl⟩
 |hop n o=>exact ⟨rfl,rfl⟩
def ph (ro:Ro K R)(hk:1<=k)(h0:1<=ds.length)(h1:ds.length<=24)(z:Sep O H)(p:ag (pt l (.lst ds)) O Δ)(hd:Hh R O ds)(q:∀ H',Sep O H'->Q .non H'):ab tab R k n6 [.ref l] H Q E:=by
 refine wc (d:=iU) nofun rfl rfl ?_;left;refine cw (t:="list") (xC (z.get p)) rfl ?_;right;refine iQ (z.get p) ?_;right;refine ax (λh=>?_) (λh=>absurd nofun h);left;simp only[ro.g_MOST_ROWS];right;refine ax (λh=>?_) (λh=>absurd nofun h);right;refine Cu (z.get p) ?_;refine kA (xs:=ds) (λj U H=>∃ u v,U=[some (.ref l),u,v]/\Sep O H) ?_ ?_ ?_ ?_
 ·exact ⟨none,none,rfl,z⟩
 ·rintro j U H ⟨u,v,rfl,hs⟩;exact hs.get p
 ·rintro j x T U H hx ⟨u,v,rfl,hs⟩ hT;obtain ⟨a,r,Δ',rfl,hp⟩:=hd x (cr hx);have hs4:=hs.gZ (xs:=[.int j,.ref a]) hT;obtain ⟨dx,fs,e⟩:=Jo hs4 (.t hp);left;refine ⟨T,_,rfl,.inl (aX.of hs4.atT),rfl,?_⟩;generalize upd H T _=H4 at hs4 e⊢;right;refine Jy e (uP r).1 (b:=true) (uP r).2 ?_;right;exact ⟨_,_,rfl,hs4.drop⟩
 ·rintro U H ⟨u,v,rfl,hs⟩;exact q _ hs
def mh {n:Int}(hk:2<=k)(h0:0<=at_)(h1:at_<=n)(q:Q .non H):ab tab R k mP [.int at_,.int n] H Q E:=by
 refine wc (d:=fY) nofun rfl rfl ?_;right;refine aI (t:="int") nofun rfl ?_;right;refine ax (λh=>?_) (λh=>absurd h0 h);right;refine ax (λh=>?_) (λh=>absurd h1 h);right;exact q
def xj {m s b:Addr}{cs:List Int}(ro:Ro K R)(hk:6<=k)(n0:1<=ds.length)(n1:ds.length<=24)(h0:0<=at_)(h1:at_<=ds.length){Δl Δs Δb:List aB}(pl:ag (pt l (.lst ds)) O Δl)(ps:ag (aS R s cs ws) O Δs)(pb:ag (aJ R b x) O Δb)(hd:Hh R O ds)
  (z:Sep (pt m (.ins (R.cad ba) dx [])::pt dx (.own m)::O) H) (q:∀ l2 s2 b2 H',Sep (k8 R m l2 s2 b2 at_ ds::aS R s2 cs ws::aJ R b2 x::O) H'->Q .non H'):ab tab R k gj [.ref m,.ref l,.ref s,.ref b,.int at_] H Q E:=by
 refine wc (d:=cK) nofun rfl rfl ?_;right;refine ph ro nofun n0 n1 z (.t (.t pl)) (λv hv=>by
  obtain ⟨a,r,Δ',e,hp⟩:=hd v hv;exact ⟨a,r,_,e,.t (.t hp)⟩) (λH1 z1=>?_)
 right;refine iQ (z1.get (.t (.t pl))) ?_;right;refine mh nofun h0 h1 ?_;right;refine vV z1 (z1.get (.t (.t pl))) (λl2 H2 z2=>?_);right;rename_i H3 z3;refine ae bp z3 (.t (.t (.t ps))) rfl rfl ?_;left;refine xY ro nofun z3 (.t (.t (.t ps))) (λs2 H4 z4=>?_);right;rename_i H5 z5;refine ae bj z5 (.t (.t (.t (.t pb)))) rfl rfl ?_;left;refine wg ro nofun z5 (.t (.t (.t (.t pb)))) (λb2 H6 z6=>?_);right;rename_i H7 z7 H8 z8;refine q l2 s2 b2 H8 (DP (dx:=dx) ?_);exact z8.sub (by ac_nf)
abbrev lR.bx (x:Bx):lR->Bx
 | .on _ x' _=>x'
 |_=>x
abbrev lR.cs (cs:List Int):lR->List Int
 | .on _ _ cs'=>cs'
 |_=>cs
abbrev Nh (t:Addr):lR->aB
 | .on r _ _=>tu t [.int r,.non]
 | .no d c=>bx λte:Addr=>[tu t [.non,.ref te],tu te [.str d,.int c]]
 | .nf b _=>bx λte:Addr=>[tu t [.non,.ref te],tu te [.str "fit",.str b.nm]]
def De {de b:Addr}{cs:List Int}(r:Rw)(ro:Ro K R)(hk:9<=k)(z:Sep (aJ R b x::aS R a cs ws::nA R de r::O) H)
  (q:∀ t H',Sep (Nh t (eX x cs ws r)::aJ R b ((eX x cs ws r).bx x)::aS R a ((eX x cs ws r).cs cs) ws::nA R de r::O) H'->Q (.ref t) H'):ab tab R k C4 [.ref de,.ref b,.ref a] H Q E:=by
 obtain ⟨f,hf,hd,hst⟩:=B7 r ro;refine wc (d:=vn) nofun rfl rfl ?_;right;refine ae (E6 r) z (.t (.t .e)) (by cases r with|lg w=>rfl|sp s=>cases s<;>rfl|hop n o=>rfl) hf ?_;left;refine aW (vs':=[.ref de,.ref b,.ref a]) (by show _::(_++dflt _ _ 3)=_;rw[hd];rfl) ?_;refine hst nofun z ?_
 revert q
 cases eX x cs ws r with
 |on n x' cs'=>
  intro q H1 z1;right;rename_i t H3 z3;exact q t H3 z3.toT
 |no d c=>
  intro q e H1 z1;obtain ⟨dx,z2⟩:=Ei z1;refine ⟨bb,_,_,true,z2.at,rfl,rfl,?_⟩;left;refine aK rfl ?_;right;rename_i te H3 z3 t H4 z4;have z5:=(z4.toT.pull (.t .e)).toT;exact q t H4 (fQ te (z5.sub (.cons (.t .e) (.cons .e (.drop (.drop .refl))))))
 |nf n i=>
  intro q e H1 z1;obtain ⟨dx,z2⟩:=Ei z1;refine ⟨cx,_,_,false,z2.at,rfl,rfl,?_⟩;left;refine ak rfl ?_;left;refine ⟨cx,_,_,true,z2.at,rfl,rfl,?_⟩;left;refine aK rfl ?_;right;rename_i te H3 z3 t H4 z4;have z5:=(z4.toT.pull (.t .e)).toT;exact q t H4 (fQ te (z5.sub (.cons (.t .e) (.cons .e (.drop (.drop .refl))))))
abbrev gd (R:Rt)(O:List aB)(ds:List V)(rs:List Rw):Prop:=ds.length=rs.length/\∀ (i:Nat) (r:Rw),rs[i]? =some r->∃ a Δ,ds[i]? =some (V.ref a)/\ag (nA R a r) O Δ
variable {rs:List Rw}
def gd.more (h:gd R O ds rs):gd R (A::O) ds rs:=⟨h.1,λi r e=>by
 obtain ⟨a,Δ,e2,p⟩:=h.2 i r e;exact ⟨a,_,e2,.t p⟩⟩
def gd.all (h:gd R O ds rs):Hh R O ds:=λv hv=>by
 obtain ⟨i,hi⟩:=getElem?_of_mem hv;have hl:=(tz.mp hi).1;obtain ⟨a,Δ,e2,p⟩:=h.2 i _ (li (by rw[<-h.1];exact hl));rw[hi] at e2;cases e2;exact ⟨a,_,Δ,rfl,p⟩
structure M8 where
 w:Str
 at_:Int
 x:Bx
 cs:List Int
abbrev mS (rs:List Rw)(at_:Int)(x:Bx)(cs:List Int)(ws:List Str):M8:=match rs[at_.toNat]? with
 |none=>⟨"end",at_,x,cs⟩
 |some r=>match eX x cs ws r with
  | .on n x' cs'=>⟨"on",min (at_+n) rs.length,x',cs'⟩
  |_=>⟨"stop",at_,x,cs⟩
section
variable {m l s b:Addr}{at_:Int}{ds:List V}{rs:List Rw}{x:Bx}{cs:List Int}{ws:List Str}
def uG (hk:1<=k)(z:Sep O H)(p:ag (k8 R m l s b at_ ds) O Δ)(q:Q (.bl (decide (at_=ds.length))) H):ab tab R k j4 [.ref m] H Q E:=by
 refine wc (d:=d8) nofun rfl rfl ?_;obtain ⟨dx,z1⟩:=wz (z.pull p);right;have e:dr (.int at_) (.int (ds.length:Int))=decide (at_=(ds.length:Int)):=by
  show (at_ ==(ds.length:Int))=_
  by_cases h:at_=(ds.length:Int)
  ·rw[decide_eq_true h,beq_iff_eq];exact h
  ·rw[decide_eq_false h];simpa using h
 rw[e];exact q
def xo (ro:Ro K R)(hk:10<=k)(h0:0<=at_)(h1:at_<=ds.length)(hd:gd R O ds rs)(z:Sep (k8 R m l s b at_ ds::aS R s cs ws::aJ R b x::O) H)
  (q:∀ H',Sep (k8 R m l s b (mS rs at_ x cs ws).at_ ds::aS R s (mS rs at_ x cs ws).cs ws::aJ R b (mS rs at_ x cs ws).x::O) H'->Q (.str (mS rs at_ x cs ws).w) H'):ab tab R k iT [.ref m,.ref s] H Q E:=by
 refine wc (d:=c6) nofun rfl rfl ?_;unfold mS at q;right;refine ae uR z .e rfl rfl ?_;left;refine uG nofun z .e ?_
 by_cases he:at_=ds.length
 ·rw[decide_eq_true he];right;rw[List.getElem?_eq_none (by have:=hd.1;omega)] at q;exact q H z
 ·rw[decide_eq_false he];have hlt:at_.toNat<rs.length:=by have:=hd.1;omega
  have er:rs[at_.toNat]? =some rs[at_.toNat]:=li hlt;generalize rs[at_.toNat]=r at er;obtain ⟨de,Δ,e2,p⟩:=hd.2 _ _ er;rw[er] at q;dsimp only at q;obtain ⟨dx,z1⟩:=wz z;right;refine aD (i:=at_) (by grind) (aw h0 e2) ?_;right;have z2:Sep (aJ R b x::aS R s cs ws::nA R de r::pt m (.ins (R.cad ba) dx [("deeds",.ref l),("store",.ref s),("boxes",.ref b),("at",.int at_)])::pt dx (.own m)::pt l (.lst ds)::Δ) H:=z1.sub (.cons (.t (.t (.t (.t .e)))) (.cons (.t (.t (.t .e))) (.cons (.t (.t (.t p))) .refl)));refine De r ro nofun z2 (λt H2 z3=>?_);clear z z1 z2
  revert q z3
  cases eX x cs ws r with
  |on n x' cs'=>
   intro q z3;have z3:Sep (tu t [.int n,.non]::aJ R b x'::aS R s cs' ws::nA R de r::pt m (.ins (R.cad ba) dx [("deeds",.ref l),("store",.ref s),("boxes",.ref b),("at",.int at_)])::pt dx (.own m)::pt l (.lst ds)::Δ) H2:=z3;right;refine gK ?_;left;refine ak rfl ?_;right;rename_i H4 z4;rw[hd.1] at z4;refine q H4 (DP (dx:=dx) ?_);exact (z4.sub (Γ':=nA R de r::pt m _::pt dx (.own m)::pt l (.lst ds)::aS R s cs' ws::aJ R b x'::Δ) (by ac_nf)).push (.t (.t (.t (.t (.t p)))))
  |no d c=>
   intro q z3;obtain ⟨te,z4⟩:=iq z3;have z4:Sep (tu t [.non,.ref te]::tu te [.str d,.int c]::aJ R b x::aS R s cs ws::nA R de r::pt m (.ins (R.cad ba) dx [("deeds",.ref l),("store",.ref s),("boxes",.ref b),("at",.int at_)])::pt dx (.own m)::pt l (.lst ds)::Δ) H2:=z4;right;refine gK ?_;left;refine aK rfl ?_;refine q H2 (DP (dx:=dx) ?_);exact (z4.sub (Γ':=nA R de r::pt m _::pt dx (.own m)::pt l (.lst ds)::aS R s cs ws::aJ R b x::Δ) (by ac_nf)).push (.t (.t (.t (.t (.t p)))))
  |nf n i=>
   intro q z3;obtain ⟨te,z4⟩:=iq z3;have z4:Sep (tu t [.non,.ref te]::tu te [.str "fit",.str n.nm]::aJ R b x::aS R s cs ws::nA R de r::pt m (.ins (R.cad ba) dx [("deeds",.ref l),("store",.ref s),("boxes",.ref b),("at",.int at_)])::pt dx (.own m)::pt l (.lst ds)::Δ) H2:=z4;right;refine gK ?_;left;refine aK rfl ?_;refine q H2 (DP (dx:=dx) ?_);exact (z4.sub (Γ':=nA R de r::pt m _::pt dx (.own m)::pt l (.lst ds)::aS R s cs ws::aJ R b x::Δ) (by ac_nf)).push (.t (.t (.t (.t (.t p)))))
def uK (ro:Ro K R)(hk:11<=k)(h0:0<=at_)(h1:at_<=ds.length)(hd:gd R O ds rs)(z:Sep (k8 R m l s b at_ ds::aS R s cs ws::aJ R b x::O) H)
  (q:∀ H',Sep (k8 R m l s b (mS rs at_ x cs ws).at_ ds::aS R s (mS rs at_ x cs ws).cs ws::aJ R b (mS rs at_ x cs ws).x::O) H'->Q (.str (mS rs at_ x cs ws).w) H'):ab tab R k kP [.ref m] H Q E:=by
 refine wc (d:=fk) nofun rfl rfl ?_;obtain ⟨dx,z1⟩:=wz z;right;refine ae uR z .e rfl rfl ?_;right;refine aW (vs':=[_,_]) rfl ?_;exact xo ro nofun h0 h1 hd z q
def qr (ro:Ro K R)(hk:2<=k)(z:Sep (k8 R m l s b at_ ds::aS R s cs ws::aJ R b x::O) H)
  (q:∀ t t1 l1 H',Sep (pt t (.tup [.int at_,.ref t1,.ref l1])::pt l1 (.lst (cs.map V.int))::tu t1 (x.ls.map V.int)::k8 R m l s b at_ ds::aS R s cs ws::aJ R b x::O) H'->Q (.ref t) H'):ab tab R k dW [.ref m] H Q E:=by
 refine wc (d:=dZ) nofun rfl rfl ?_;obtain ⟨dx,z1⟩:=wz z;right;refine ae bj z (.t (.t .e)) rfl rfl ?_;left;refine CP ro nofun z (.t (.t .e)) (λt1 H1 z2=>?_);obtain ⟨dx,z3⟩:=wz (z2.pull (.t .e));right;refine ae bp z2 (.t (.t .e)) rfl rfl ?_;left;refine uO nofun z2 (.t (.t .e)) (λl1 H2 z4=>?_);right;rename_i t H3 z5;exact q t t1 l1 H3 z5
end
abbrev BA (x:Bx):Rw->List Int
 | .lg w=>mY w x
 | .sp (.read _)=>[x.h]
 |_=>[]
abbrev Bq (x:Bx):Rw->List Int
 | .lg w=>wq w x
 | .sp (.write _)=>[x.t]
 |_=>[]
def hJ {sp:Addr}(r:Rw)(hk:1<=k)(z:Sep (tu sp r.tl::aq d x::O) H)
  (q:∀ t l1 l2 H',Sep (tu t [.ref l1,.ref l2]::pt l1 (.lst ((BA x r).map V.int))::pt l2 (.lst ((Bq x r).map V.int))::tu sp r.tl::aq d x::O) H'->Q (.ref t) H'):ab tab R k pO [.ref sp,.ref d] H Q E:=by
 obtain ⟨h,t,l,w,s,m⟩:=x;refine wc (d:=gW) nofun rfl rfl ?_;have fi:∀ (L P:List Int){p l1 l2:Addr}{H3:Hp},BA ⟨h,t,l,w,s,m⟩ r=L->Bq ⟨h,t,l,w,s,m⟩ r=P->Sep (pt p (.tup [.ref l1,.ref l2])::pt l2 (.lst (P.map V.int))::pt l1 (.lst (L.map V.int))::tu sp r.tl::aq d ⟨h,t,l,w,s,m⟩::O) H3->Q (.ref p) H3:=by
  intro L P p l1 l2 H3 e1 e2 z3;refine q p l1 l2 H3 ?_;rw[e1,e2];have z4:=z3.toT;walk_at "sp"
 clear q;cases r with
 |lg wd=>
  have L0:l≠0->BA ⟨h,t,l,w,s,m⟩ (.lg wd)=DH h t l wd:=λe=>if_neg e
  have P0:l≠0->Bq ⟨h,t,l,w,s,m⟩ (.lg wd)=BO h t l wd:=λe=>if_neg e
  have L1:l=0->BA ⟨h,t,l,w,s,m⟩ (.lg wd)=[]:=λe=>if_pos e
  have P1:l=0->Bq ⟨h,t,l,w,s,m⟩ (.lg wd)=[]:=λe=>if_pos e
  cases wd
  case turn=>
   walk_at "wd"
   repeat walk_at "sc"
   refine az (λe=>?_) (λe=>?_)
   ·walk_at "wd";rename_i l1 H1 z1 l2 H2 z2 p H3 z3;exact fi [] [] (L1 e) (P1 e) z3
   walk_at "wd"
   repeat walk_at "sc"
   refine az (λe2=>?_) (λe2=>?_)
   ·walk_at "wd";rename_i l1 H1 z1 l2 H2 z2 p H3 z3;exact fi [] [] ((L0 e).trans (if_pos e2)) ((P0 e).trans (if_pos e2)) z3
   ·walk_at "wd"
    repeat walk_at "sc"
    rename_i l1 H1 z1 l2 H2 z2 p H3 z3;exact fi [h,h+l-1] [h,h+l-1] ((L0 e).trans (if_neg e2)) ((P0 e).trans (if_neg e2)) z3
  case shift=>
   walk_at "wd"
   repeat walk_at "sc"
   refine az (λe=>?_) (λe=>?_)
   ·walk_at "wd";rename_i l1 H1 z1 l2 H2 z2 p H3 z3;exact fi [] [] (L1 e) (P1 e) z3
   walk_at "wd"
   repeat walk_at "sc"
   walk_at "wd";dsimp only;refine aD (by grind) Ng ?_
   by_cases e2:t<=h
   ·rw[if_pos (decide_eq_true e2)];walk_at "wd";rename_i l1 H1 z1 l2 H2 z2 p H3 z3;have z4:Sep (pt p (.tup [.ref l1,.ref l2])::pt l2 (.lst [.int (t+0)])::pt l1 (.lst [.int (h+0)])::tu sp (Rw.tl (.lg .shift))::aq d ⟨h,t,l,w,s,m⟩::O) H3:=by walk_at "sp"
    exact fi [h+0] [t+0] ((L0 e).trans (if_pos e2)) ((P0 e).trans (if_pos e2)) z4
   ·rw[if_neg (by simpa using e2)];walk_at "wd";rename_i l1 H1 z1 l2 H2 z2 p H3 z3;have z4:Sep (pt p (.tup [.ref l1,.ref l2])::pt l2 (.lst [.int (t+(l-1))])::pt l1 (.lst [.int (h+(l-1))])::tu sp (Rw.tl (.lg .shift))::aq d ⟨h,t,l,w,s,m⟩::O) H3:=by walk_at "sp"
    exact fi [h+(l-1)] [t+(l-1)] ((L0 e).trans (if_neg e2)) ((P0 e).trans (if_neg e2)) z4
  all_goals
   walk_at "wd"
   repeat walk_at "sc"
   refine az (λe=>?_) (λe=>?_)
   ·walk_at "wd";rename_i l1 H1 z1 l2 H2 z2 p H3 z3;exact fi [] [] (L1 e) (P1 e) z3
   walk_at "wd"
   repeat walk_at "sc"
   rename_i l1 H1 z1 l2 H2 z2 p H3 z3;exact fi _ _ (L0 e) (P0 e) z3
 |sp s'=>
  cases s'
  case read|write=>
   walk_at "wd"
   repeat walk_at "sc"
   rename_i l1 H1 z1 l2 H2 z2 p H3 z3;exact fi _ _ rfl rfl z3
  all_goals
   walk_at "wd"
   repeat walk_at "sc"
   refine az (λe=>?_) (λe=>?_)
   ·walk_at "wd";rename_i l1 H1 z1 l2 H2 z2 p H3 z3;exact fi [] [] rfl rfl z3
   walk_at "wd"
   repeat walk_at "sc"
   rename_i l1 H1 z1 l2 H2 z2 p H3 z3;exact fi [] [] rfl rfl z3
 |hop n o=>
  walk_at "wd"
  repeat walk_at "sc"
  refine az (λe=>?_) (λe=>?_)
  ·walk_at "wd";rename_i l1 H1 z1 l2 H2 z2 p H3 z3;exact fi [] [] rfl rfl z3
  walk_at "wd"
  repeat walk_at "sc"
  rename_i l1 H1 z1 l2 H2 z2 p H3 z3;exact fi [] [] rfl rfl z3
def fA {sp lv t l1 l2:Addr}{tl:List V}{ls ps:List Int}{D:Ends}{E:St->XK}{u:Option V}(hk:2<=k)(z1:Sep (tu t [.ref l1,.ref l2]::pt l1 (.lst (ls.map V.int))::pt l2 (.lst (ps.map V.int))::tu sp tl::aq d x::pt lv (.lst (ws.map V.str))::O) H)
  (q0:bI ws ls ps=none->∀ H',Sep (tu sp tl::aq d x::pt lv (.lst (ws.map V.str))::O) H'->D.rt .non H')
  (q1:∀ dd c,bI ws ls ps=some (dd,c)->∀ t H',Sep (pt t (.tup [.str dd,.int c,.int 0])::tu sp tl::aq d x::pt lv (.lst (ws.map V.str))::O) H'->D.rt (.ref t) H'):
  wB (eU 2 bZ.body) ⟨tab,R,ab tab R (k-1),true⟩ D E [some (.ref sp),some (.ref d),some (.ref lv),some (.ref l1),some (.ref l2),u] H:=by
 right;refine c8 (xs:=ls.map V.int) (λj U H=>∃ v,U=[some (.ref sp),some (.ref d),some (.ref lv),some (.ref l1),some (.ref l2),v]/\(∀ i x,i<j->ls[i]? =some x->ai ws "look" x=true)/\Sep (tu t [.ref l1,.ref l2]::pt l1 (.lst (ls.map V.int))::pt l2 (.lst (ps.map V.int))::tu sp tl::aq d x::pt lv (.lst (ws.map V.str))::O) H) ?_ ?_ ?_ ?_
 ·exact ⟨_,rfl,λi x hi=>absurd hi nofun,z1⟩
 ·rintro j U H ⟨v,rfl,_,hs⟩;exact aR.of (by grind)
 ·rintro j y U H hx ⟨v,rfl,hb,hs⟩;rw[io] at hx;obtain ⟨c,hc,rfl⟩:=nw.mp hx;right;refine Aq nofun hs (by symm) ?_;right;refine bY (λhm=>?_) (λhm=>?_)
  ·right;refine ⟨_,rfl,λi x hi hxx=>?_,hs⟩
   by_cases e:i=j
   ·subst e;rw[hc] at hxx;cases hxx;exact hm
   ·exact hb i x nofun hxx
  ·right;rename_i p H2 z2;refine q1 "look" c ?_ p H2 ?_
   ·unfold bI;rw[pE hb hc hm]
   ·walk_at "sp"
 ·rintro U H ⟨v,rfl,hb,hs⟩;have e0:aZ ws "look" ls=none:=lU λc hc=>by
   obtain ⟨i,hi⟩:=List.mem_iff_getElem?.mp hc;have:=(tz.mp hi).1;exact hb i c (by rw[ce];exact this) hi
  right;refine c8 (xs:=ps.map V.int) (λj U H=>∃ v,U=[some (.ref sp),some (.ref d),some (.ref lv),some (.ref l1),some (.ref l2),v]/\(∀ i x,i<j->ps[i]? =some x->ai ws "put" x=true)/\Sep (tu t [.ref l1,.ref l2]::pt l1 (.lst (ls.map V.int))::pt l2 (.lst (ps.map V.int))::tu sp tl::aq d x::pt lv (.lst (ws.map V.str))::O) H) ?_ ?_ ?_ ?_
  ·exact ⟨_,rfl,λi x hi=>absurd hi nofun,hs⟩
  ·rintro j U H ⟨v,rfl,_,hs⟩;exact aR.of (by grind)
  ·rintro j y U H hx ⟨v,rfl,hb,hs⟩;rw[io] at hx;obtain ⟨c,hc,rfl⟩:=nw.mp hx;right;refine Aq nofun hs (by symm) ?_;right;refine bY (λhm=>?_) (λhm=>?_)
   ·right;refine ⟨_,rfl,λi x hi hxx=>?_,hs⟩
    by_cases e:i=j
    ·subst e;rw[hc] at hxx;cases hxx;exact hm
    ·exact hb i x nofun hxx
   ·right;rename_i p H2 z2;refine q1 "put" c ?_ p H2 ?_
    ·unfold bI;rw[e0];exact pE hb hc hm
    ·walk_at "sp"
  ·rintro U H ⟨v,rfl,hb2,hs⟩;right;refine q0 ?_ H (by walk_at "sp");unfold bI;rw[e0];exact lU λc hc=>by
    obtain ⟨i,hi⟩:=List.mem_iff_getElem?.mp hc;have:=(tz.mp hi).1;exact hb2 i c (by rw[ce];exact this) hi
abbrev lR.tl:lR->List V
 | .on r _ _=>[.str "on",.int r,.int 0]
 | .no d c=>[.str d,.int c,.int 0]
 | .nf b i=>[.str "fit",.str b.nm,.int i]
def bS {sp lv:Addr}(r:Rw)(hk:2<=k)(hr:∀ b,r=.sp (.write b)->fO (.int (x.g b))=true) (z:Sep (tu sp r.tl::aq d x::pt lv (.lst (ws.map V.str))::O) H)
  (q0:bI ws (BA x r) (Bq x r)=none->∀ H',Sep (tu sp r.tl::aq d x::pt lv (.lst (ws.map V.str))::O) H'->Q .non H')
  (q1:∀ dd c,bI ws (BA x r) (Bq x r)=some (dd,c)->∀ t H',Sep (pt t (.tup [.str dd,.int c,.int 0])::tu sp r.tl::aq d x::pt lv (.lst (ws.map V.str))::O) H'->Q (.ref t) H'):ab tab R k fV [.ref sp,.ref d,.ref lv] H Q E:=by
 refine wc (d:=bZ) nofun rfl rfl ?_;cases r with
 |sp s=>
  cases s
  case write b=>
   have hc:(decide (0<=x.g b)&&decide (x.g b<=1000000000))=true:=hr b rfl;have hc:0<=x.g b/\x.g b<=1000000000:=by simpa using hc
   right
   repeat walk_at "sc"
   refine mf z (.t .e) ?_;right;refine ax (λh0=>?_) (λh0=>absurd hc.1 h0);right;rw[iN];refine ax (λh0=>?_) (λh0=>absurd hc.2 h0);right;refine hJ (.sp (.write b)) nofun z (λt l1 l2 H1 z1=>?_);right;refine ⟨t,_,rfl,.inl (aX.of z1.atT),rfl,?_⟩;exact fA hk z1 q0 q1
  all_goals
   right
   repeat walk_at "sc"
   refine hJ (.sp _) nofun z (λt l1 l2 H1 z1=>?_);right;refine ⟨t,_,rfl,.inl (aX.of z1.atT),rfl,?_⟩;exact fA hk z1 q0 q1
 |lg w=>
  cases w
  all_goals
   right
   repeat walk_at "sc"
   refine hJ (.lg _) nofun z (λt l1 l2 H1 z1=>?_);right;refine ⟨t,_,rfl,.inl (aX.of z1.atT),rfl,?_⟩;exact fA hk z1 q0 q1
 |hop n o=>
  right
  repeat walk_at "sc"
  refine hJ (.hop n o) nofun z (λt l1 l2 H1 z1=>?_);right;refine ⟨t,_,rfl,.inl (aX.of z1.atT),rfl,?_⟩;exact fA hk z1 q0 q1
def xk {sp lv:Addr}{b:Bn}(hk:2<=k)(hb:fO (.int (x.g b))=false)(z:Sep (tu sp (Rw.tl (.sp (.write b)))::aq d x::pt lv (.lst (ws.map V.str))::O) H)
  (q:∀ t H',Sep (pt t (.tup [.str "fit",.str b.nm,.int (x.g b)])::tu sp (Rw.tl (.sp (.write b)))::aq d x::pt lv (.lst (ws.map V.str))::O) H'->Q (.ref t) H'):ab tab R k fV [.ref sp,.ref d,.ref lv] H Q E:=by
 refine wc (d:=bZ) nofun rfl rfl ?_;have hc:(decide (0<=x.g b)&&decide (x.g b<=1000000000))=false:=hb;have hc:0<=x.g b->¬ x.g b<=1000000000:=by simpa using hc
 right
 repeat walk_at "sc"
 refine mf z (.t .e) ?_;right;refine ax (λh0=>?_) (λh0=>?_)
 ·right;rw[iN];refine ax (λh1=>absurd h1 (hc h0)) (λh1=>?_);right;refine mf z (.t .e) ?_;right;rename_i t H1 z1;exact q t H1 z1
 ·right;refine mf z (.t .e) ?_;right;rename_i t H1 z1;exact q t H1 z1
def yk {sp p lv:Addr}{cs:List Int}(r:Rw)(hk:3<=k)(hr:r.ok)(hx:0<=x.l)(hl:cs.length=ws.length)(z:Sep (tu sp r.tl::aq d x::pt p (.lst (cs.map V.int))::pt lv (.lst (ws.map V.str))::O) H)
  (q:∀ td H',Sep (pt td (.tup (eX x cs ws r).tl)::tu sp r.tl::aq d ((eX x cs ws r).bx x)::pt p (.lst (((eX x cs ws r).cs cs).map V.int))::pt lv (.lst (ws.map V.str))::O) H'->Q (.ref td) H'):ab tab R k rK [.ref sp,.ref d,.ref p,.ref lv] H Q E:=by
 refine wc (d:=jG) nofun rfl rfl ?_;have z0:Sep (tu sp r.tl::aq d x::pt lv (.lst (ws.map V.str))::pt p (.lst (cs.map V.int))::O) H:=z.sub (by ac_nf);right;cases r with
 |lg w=>
  refine bS (.lg w) nofun (λb e=>by cases e) z0 (λhb H1 z1=>?_) (λdd c hb t H1 z1=>?_)
  ·right;refine bc ?_;left;refine ak rfl ?_;right;rename_i tp H2 z2;refine fR (aX.of z2.at) rfl rfl ?_;left;refine ak (by cases w<;>decide+kernel) ?_;right;refine ak (by cases w<;>decide+kernel) ?_;right;refine ak (by cases w<;>decide+kernel) ?_;right;refine CU w (O:=pt lv (.lst (ws.map V.str))::tu sp (Rw.tl (.lg w))::O) nofun hx hl hb (z2.sub (by ac_nf)) ?_;have q:∀ td H',Sep (pt td (.tup (ofM (cY w x cs ws)).tl)::tu sp (Rw.tl (.lg w))::aq d ((ofM (cY w x cs ws)).bx x)::pt p (.lst (((ofM (cY w x cs ws)).cs cs).map V.int))::pt lv (.lst (ws.map V.str))::O) H'->Q (.ref td) H':=q
   revert q
   cases cY w x cs ws with
   |no dd c=>exact λ_=>True.intro
   |on n x' cs'=>
    intro q H3 z3;right;rename_i t H4 z4;exact q t H4 (z4.sub (.cons .e (.cons (.t (.t (.t .e))) .refl)))
  ·have e:eX x cs ws (.lg w)=.no dd c:=congrArg ofM (FZ hx hb);rw[e] at q;right;refine bc ?_;left;refine aK rfl ?_;left;exact q t H1 (z1.sub (.cons .e (.cons .e (.cons .e (.cons (.t .e) .refl)))))
 |hop n o=>
  refine bS (.hop n o) nofun (λb e=>by cases e) z0 (λhb H1 z1=>?_) (λdd c hb t H1 z1=>by cases hb);right;refine bc ?_;left;refine ak rfl ?_;right;rename_i tp H2 z2;refine fR (aX.of z2.at) rfl rfl ?_;left;refine ak (by decide+kernel) ?_;right
  repeat walk_at "sc"
  have hn:∀ c:Bool,rQ n (b2i c):=λc=>by cases c<;>(unfold rQ b2i;have:=hr.1;omega)
  refine gK ?_;cases o with
  |none=>
   left;refine aK rfl ?_;right;refine dI ?_;left;refine ⟨hn true,?_⟩;right;rename_i t H4 z4;have e:1+n*b2i true=1+n:=by rw[show b2i true=1 from rfl,Int.mul_one]
   rw[e] at z4;exact q t H4 (z4.sub (.cons .e (.cons (.t .e) (.cons (.t .e) (.cons (.t (.t .e)) (.cons (.t .e) (.drop .refl)))))))
  |some i=>
   left;refine ak rfl ?_;right;refine mf (n:=.m) z2 (by symm) ?_;right;refine dI ?_;left;refine ⟨hn _,?_⟩;right;rename_i t H4 z4;have e:1+n*b2i (dr (oV (some i)) (.int (x.g Bn.m)))=if i=x.m then 1+n else 1:=by
    show 1+n*b2i (i ==x.m)=_
    by_cases h:i=x.m
    ·rw[if_pos h,show (i ==x.m)=true by simpa using h,show b2i true=1 from rfl,Int.mul_one]
    ·rw[if_neg h,show (i ==x.m)=false by simpa using h,show b2i false=0 from rfl,Int.mul_zero,Int.add_zero]
   rw[e] at z4;exact q t H4 (z4.sub (.cons .e (.cons (.t .e) (.cons (.t .e) (.cons (.t (.t .e)) (.cons (.t .e) (.drop .refl)))))))
 |sp s=>
  have q:∀ td H',Sep (pt td (.tup (j0 (jY x cs ws s)).tl)::tu sp s.tl::aq d ((j0 (jY x cs ws s)).bx x)::pt p (.lst (((j0 (jY x cs ws s)).cs cs).map V.int))::pt lv (.lst (ws.map V.str))::O) H'->Q (.ref td) H':=q;cases s with
  |set n i=>
   have q:∀ td H',Sep (pt td (.tup (j0 (bq x cs n i)).tl)::tu sp (Sp.tl (.set n i))::aq d ((j0 (bq x cs n i)).bx x)::pt p (.lst (((j0 (bq x cs n i)).cs cs).map V.int))::pt lv (.lst (ws.map V.str))::O) H'->Q (.ref td) H':=q;refine bS (.sp (.set n i)) nofun (λb e=>by cases e) z0 (λhb H1 z1=>?_) (λdd c hb t H1 z1=>by cases hb);right;refine bc ?_;left;refine ak rfl ?_;right;rename_i tp H2 z2;refine fR (aX.of z2.at) rfl rfl ?_;left;refine aK (by decide+kernel) ?_;right
   repeat walk_at "sc"
   refine kB (n:=n) (i:=i) nofun ?_;cases hf:bg n (i) with
   |false=>
    rw[bq,if_neg (by rw[hf];exact Bool.false_ne_true)] at q;right;rename_i td H3 z3;exact q td H3 (z3.sub (.cons .e (.cons (.t .e) (.cons (.t .e) (.cons (.t (.t .e)) (.cons (.t .e) (.drop .refl)))))))
   |true=>
    rw[bq,if_pos hf] at q;right;refine BK (n:=n) (i:=i) z2 (by ac_rfl) (λH3 z3=>?_);right;rename_i td H4 z4;exact q td H4 (z4.sub (.cons .e (.cons (.t .e) (.cons (.t .e) (.cons (.t (.t .e)) (.cons (.t .e) (.drop .refl)))))))
  |add n i=>
   have q:∀ td H',Sep (pt td (.tup (j0 (bq x cs n (x.g n+i))).tl)::tu sp (Sp.tl (.add n i))::aq d ((j0 (bq x cs n (x.g n+i))).bx x)::pt p (.lst (((j0 (bq x cs n (x.g n+i))).cs cs).map V.int))::pt lv (.lst (ws.map V.str))::O) H'->Q (.ref td) H':=q;refine bS (.sp (.add n i)) nofun (λb e=>by cases e) z0 (λhb H1 z1=>?_) (λdd c hb t H1 z1=>by cases hb);right;refine bc ?_;left;refine ak rfl ?_;right;rename_i tp H2 z2;refine fR (aX.of z2.at) rfl rfl ?_;left;refine aK (by decide+kernel) ?_;right
   repeat walk_at "sc"
   refine mf (n:=n) z2 (by symm) ?_;right
   repeat walk_at "sc"
   refine kB (n:=n) (i:=x.g n+i) nofun ?_;cases hf:bg n (x.g n+i) with
   |false=>
    rw[bq,if_neg (by rw[hf];exact Bool.false_ne_true)] at q;right;rename_i td H3 z3;exact q td H3 (z3.sub (.cons .e (.cons (.t .e) (.cons (.t .e) (.cons (.t (.t .e)) (.cons (.t .e) (.drop .refl)))))))
   |true=>
    rw[bq,if_pos hf] at q;right;refine BK (n:=n) (i:=x.g n+i) z2 (by ac_rfl) (λH3 z3=>?_);right;rename_i td H4 z4;exact q td H4 (z4.sub (.cons .e (.cons (.t .e) (.cons (.t .e) (.cons (.t (.t .e)) (.cons (.t .e) (.drop .refl)))))))
  |take n m=>
   have q:∀ td H',Sep (pt td (.tup (j0 (bq x cs n (x.g m))).tl)::tu sp (Sp.tl (.take n m))::aq d ((j0 (bq x cs n (x.g m))).bx x)::pt p (.lst (((j0 (bq x cs n (x.g m))).cs cs).map V.int))::pt lv (.lst (ws.map V.str))::O) H'->Q (.ref td) H':=q;refine bS (.sp (.take n m)) nofun (λb e=>by cases e) z0 (λhb H1 z1=>?_) (λdd c hb t H1 z1=>by cases hb);right;refine bc ?_;left;refine ak rfl ?_;right;rename_i tp H2 z2;refine fR (aX.of z2.at) rfl rfl ?_;left;refine aK (by decide+kernel) ?_;right
   repeat walk_at "sc"
   refine mf (n:=m) z2 (by symm) ?_;right
   repeat walk_at "sc"
   refine kB (n:=n) (i:=x.g m) nofun ?_;cases hf:bg n (x.g m) with
   |false=>
    rw[bq,if_neg (by rw[hf];exact Bool.false_ne_true)] at q;right;rename_i td H3 z3;exact q td H3 (z3.sub (.cons .e (.cons (.t .e) (.cons (.t .e) (.cons (.t (.t .e)) (.cons (.t .e) (.drop .refl)))))))
   |true=>
    rw[bq,if_pos hf] at q;right;refine BK (n:=n) (i:=x.g m) z2 (by ac_rfl) (λH3 z3=>?_);right;rename_i td H4 z4;exact q td H4 (z4.sub (.cons .e (.cons (.t .e) (.cons (.t .e) (.cons (.t (.t .e)) (.cons (.t .e) (.drop .refl)))))))
  |read n=>
   have q:∀ td H',Sep (pt td (.tup (j0 (if ai ws "look" x.h=true then bq x cs n (gt cs x.h) else .no "look" x.h)).tl)::tu sp (Sp.tl (.read n))::aq d ((j0 (if ai ws "look" x.h=true then bq x cs n (gt cs x.h) else .no "look" x.h)).bx x)::pt p (.lst (((j0 (if ai ws "look" x.h=true then bq x cs n (gt cs x.h) else .no "look" x.h)).cs cs).map V.int))::pt lv (.lst (ws.map V.str))::O) H'->Q (.ref td) H':=q;refine bS (.sp (.read n)) nofun (λb e=>by cases e) z0 (λhb H1 z1=>?_) (λdd c hb t H1 z1=>?_)
   ·obtain ⟨hm,_⟩:=aF (hG hb).1;have hm:ai ws "look" x.h=true:=hm;have g:=av hm;rw[if_pos hm] at q;right;refine bc ?_;left;refine ak rfl ?_;right;rename_i tp H2 z2;refine fR (aX.of z2.at) rfl rfl ?_;left;refine aK (by decide+kernel) ?_;right
    repeat walk_at "sc"
    refine mf (n:=.h) z2 (by symm) ?_;right;refine aD (i:=x.h) (by grind) (iO g.1 nofun) ?_;right
    repeat walk_at "sc"
    refine kB (n:=n) (i:=gt cs x.h) nofun ?_;cases hf:bg n (gt cs x.h) with
    |false=>
     rw[bq,if_neg (by rw[hf];exact Bool.false_ne_true)] at q;right;rename_i td H3 z3;exact q td H3 (z3.sub (.cons .e (.cons (.t .e) (.cons (.t .e) (.cons (.t (.t .e)) (.cons (.t .e) (.drop .refl)))))))
    |true=>
     rw[bq,if_pos hf] at q;right;refine BK (n:=n) (i:=gt cs x.h) z2 (by ac_rfl) (λH3 z3=>?_);right;rename_i td H4 z4;exact q td H4 (z4.sub (.cons .e (.cons (.t .e) (.cons (.t .e) (.cons (.t (.t .e)) (.cons (.t .e) (.drop .refl)))))))
   ·have hm:ai ws "look" x.h=false/\dd="look"/\c=x.h:=by
     cases e:ai ws "look" x.h with
     |true=>rw[show bI ws (BA x (.sp (.read n))) (Bq x (.sp (.read n)))=none by show bI ws [x.h] []=none;unfold bI aZ;rw[if_pos e];rfl] at hb;cases hb
     |false=>
      rw[show bI ws (BA x (.sp (.read n))) (Bq x (.sp (.read n)))=some (("look":Str),x.h) by show bI ws [x.h] []=_;unfold bI aZ;rw[if_neg (nt e)]] at hb;cases hb;exact ⟨rfl,rfl,rfl⟩
    obtain ⟨e1,rfl,rfl⟩:=hm;rw[if_neg (nt e1)] at q;right;refine bc ?_;left;refine aK rfl ?_;left;exact q t H1 (z1.sub (.cons .e (.cons .e (.cons .e (.cons (.t .e) .refl)))))
  |write n=>
   have q:∀ td H',Sep (pt td (.tup (j0 (if fO (.int (x.g n))=true then (if ai ws "put" x.t=true then .on x (cs.set x.t.toNat (x.g n)) else .no "put" x.t) else .nf n (x.g n))).tl)::tu sp (Sp.tl (.write n))::aq d ((j0 (if fO (.int (x.g n))=true then (if ai ws "put" x.t=true then .on x (cs.set x.t.toNat (x.g n)) else .no "put" x.t) else .nf n (x.g n))).bx x)::pt p (.lst (((j0 (if fO (.int (x.g n))=true then (if ai ws "put" x.t=true then .on x (cs.set x.t.toNat (x.g n)) else .no "put" x.t) else .nf n (x.g n))).cs cs).map V.int))::pt lv (.lst (ws.map V.str))::O) H'->Q (.ref td) H':=q;cases hc:fO (.int (x.g n)) with
   |false=>
    rw[if_neg (nt hc)] at q;refine xk nofun hc z0 (λt H1 z1=>?_);right;refine bc ?_;left;refine aK rfl ?_;left;exact q t H1 (z1.sub (.cons .e (.cons .e (.cons .e (.cons (.t .e) .refl)))))
   |true=>
    rw[if_pos hc] at q;refine bS (.sp (.write n)) nofun (λb e=>by cases e;exact hc) z0 (λhb H1 z1=>?_) (λdd c hb t H1 z1=>?_)
    ·have hm:ai ws "put" x.t=true:=(aF (hG hb).2).1;have g:=av hm;rw[if_pos hm] at q;right;refine bc ?_;left;refine ak rfl ?_;right;rename_i tp H2 z2;refine fR (aX.of z2.at) rfl rfl ?_;left;refine ak (by decide+kernel) ?_;right
     repeat walk_at "sc"
     refine mf (n:=n) z2 (by symm) ?_;right;refine mf (n:=.t) z2 (by symm) ?_;left;refine dS (i:=x.t) z2 (by ac_rfl) (cI g.1 (by rw[ce];omega)) cP (λH3 z3=>?_);right;rename_i td H4 z4;exact q td H4 (z4.sub (.cons .e (.cons (.t .e) (.cons (.t .e) (.cons (.t (.t .e)) (.cons (.t .e) (.drop .refl)))))))
    ·have hm:ai ws "put" x.t=false/\dd="put"/\c=x.t:=by
      cases e:ai ws "put" x.t with
      |true=>rw[show bI ws (BA x (.sp (.write n))) (Bq x (.sp (.write n)))=none by show bI ws [] [x.t]=none;unfold bI aZ;dsimp only;unfold aZ;rw[if_pos e]] at hb;cases hb
      |false=>
       rw[show bI ws (BA x (.sp (.write n))) (Bq x (.sp (.write n)))=some (("put":Str),x.t) by show bI ws [] [x.t]=_;unfold bI aZ;dsimp only;unfold aZ;rw[if_neg (nt e)]] at hb;cases hb;exact ⟨rfl,rfl,rfl⟩
     obtain ⟨e1,rfl,rfl⟩:=hm;rw[if_neg (nt e1)] at q;right;refine bc ?_;left;refine aK rfl ?_;left;exact q t H1 (z1.sub (.cons .e (.cons .e (.cons .e (.cons (.t .e) .refl)))))
def J3 (h0:0<=r)(h1:r<6):∃ wd:Wd,kG [V.str "copy",V.str "fill",V.str "seek",V.str "match",V.str "shift",V.str "turn"] r=some (.str wd.s):=by
 have:r=0\/r=1\/r=2\/r=3\/r=4\/r=5:=by omega
 rcases this with rfl|rfl|rfl|rfl|rfl|rfl
 ·exact ⟨.copy,rfl⟩
 ·exact ⟨.fill,rfl⟩
 ·exact ⟨.seek,rfl⟩
 ·exact ⟨.mtch,rfl⟩
 ·exact ⟨.shift,rfl⟩
 ·exact ⟨.turn,rfl⟩
def Gv (h0:0<=r)(h1:r<3):∃ o:Option Int,kG [V.non,.int 0,.int 1] r=some (oV o)/\KS o:=by
 rcases (by omega:r=0\/r=1\/r=2) with rfl|rfl|rfl
 ·exact ⟨none,rfl,True.intro⟩
 ·exact ⟨some 0,rfl,.inl rfl⟩
 ·exact ⟨some 1,rfl,.inr rfl⟩
abbrev sD (v:V):Prop:=∃ b:Bn,v=.str b.nm
def DB {sz:Int}(hk:2<=k)(s:Sep (hand h m::O) H)(hm:m<=1099510000000)(h0:0<=sz)(h1:sz<=60)(q:∀ t r H',Rw.ok r->Sep (tu t r.tl::hand h (m+10)::O) H'->Q (.ref t) H'):ab tab R k su [.ref h,.int sz] H Q E:=by
 refine wc (d:=jQ) nofun rfl rfl ?_;walk_at "gd";rename_i wy H1 wy0 wy1 hs1 p1 H2 hs2 r2 H3 r20 r21 hs3;obtain ⟨b,e2⟩:=ET r20 r21;refine aD (by grind) e2 ?_;clear s hs1 hs2;right;refine ax (λg0=>?_) (λg0=>?_)
 ·right;rename_i l4 H4 hs4;obtain ⟨wd,e3⟩:=J3 wy0 g0;refine aD (by grind) e3 ?_;right;rename_i t H5 hs5;have z6:Sep (tu t (Rw.tl (.lg wd))::_) _:=hs5.toT;exact q t (.lg wd) _ True.intro ((ao (n:=m+10) (z6.pull (A:=hand h _) (by symm)) nofun).sub (by ac_nf))
 right;refine ax (λg1=>?_) (λg1=>?_)
 ·walk_at "gd";rename_i l4 H4 hs4 r5 H5 r50 r51 hs5;obtain ⟨v,e3,b3,rfl⟩:=dX (P:=sD) (xs:=[.str "here",.str "there",.str "left",.str b.nm]) (r:=r5) r50 (by simpa using r51) (K1 ⟨.h,rfl⟩ ⟨.t,rfl⟩ ⟨.l,rfl⟩ ⟨b,rfl⟩);refine aD (by grind) e3 ?_;walk_at "gd";rename_i r6 H6 r60 r61 hs6 r7 H7 r70 r71 hs7 r8 H8 r80 r81 hs8 r9 H9 r90 r91 hs9 l10 H10 hs10;obtain ⟨v,e4,i,rfl,i0,i1⟩:=dX (xs:=[.int r7,.int (r8-2),.int (10 ^ Int.toNat 9-r9)]) (P:=inR (-1000000000) 1000000000) (r:=r6 / 3) nofun (by simp;omega) (Kx (.mk nofun nofun) (.mk nofun nofun) (.mk (by rw[iN];omega) (by rw[iN];omega)));refine aD (by grind) e4 ?_;right;rename_i t H11 hs11;have z6:Sep (tu t (Rw.tl (.sp (.set b3 i)))::_) _:=hs11.toT;exact q t (.sp (.set b3 i)) _ ⟨i0,i1⟩ ((ao (n:=m+10) (z6.pull (A:=hand h _) (by symm)) nofun).sub (by ac_nf))
 right;refine az (λg2=>?_) (λg2=>?_)
 ·walk_at "gd";rename_i r6 H6 r60 r61 hs6 r7 H7 r70 r71 hs7 r8 H8 r80 r81 hs8 l10 H10 hs10;obtain ⟨v,e4,i,rfl,i0,i1⟩:=dX (xs:=[.int (r7-3),.int r8,.int (-(10 ^ Int.toNat 9))]) (P:=inR (-1000000000) 1000000000) (r:=r6 / 3) nofun (by simp;omega) (Kx (.mk nofun nofun) (.mk nofun nofun) (.mk (by rw[iN];omega) (by rw[iN];omega)));refine aD (by grind) e4 ?_;right;rename_i t H11 hs11;have z6:Sep (tu t (Rw.tl (.sp (.add b i)))::_) _:=hs11.toT;exact q t (.sp (.add b i)) _ ⟨i0,i1⟩ ((ao (n:=m+10) (z6.pull (A:=hand h _) (by symm)) nofun).sub (by ac_nf))
 right;refine az (λg3=>?_) (λg3=>?_)
 ·walk_at "gd";rename_i r6 H6 r60 r61 hs6;obtain ⟨c,e3⟩:=ET r60 r61;refine aD (by grind) e3 ?_;right;rename_i t H11 hs11;have z6:Sep (tu t (Rw.tl (.sp (.take b c)))::_) _:=hs11.toT;exact q t (.sp (.take b c)) _ True.intro ((ao (n:=m+10) (z6.pull (A:=hand h _) (by symm)) nofun).sub (by ac_nf))
 right;refine ax (λg4=>?_) (λg4=>?_)
 ·right;rename_i l4 H4 hs4;rcases (by omega:wy=11\/wy=12) with rfl|rfl
  ·right;rename_i t H11 hs11;have z6:Sep (tu t (Rw.tl (.sp (.read b)))::_) _:=hs11.toT;exact q t (.sp (.read b)) _ True.intro ((ao (n:=m+10) (z6.pull (A:=hand h _) (by symm)) nofun).sub (by ac_nf))
  ·right;rename_i t H11 hs11;have z6:Sep (tu t (Rw.tl (.sp (.write b)))::_) _:=hs11.toT;exact q t (.sp (.write b)) _ True.intro ((ao (n:=m+10) (z6.pull (A:=hand h _) (by symm)) nofun).sub (by ac_nf))
 walk_at "gd";rename_i r6 H6 r60 r61 hs6 l7 H7 hs7 r8 H8 r80 r81 hs8;obtain ⟨o,e3,ho⟩:=Gv r80 r81;refine aD (by grind) e3 ?_;right;rename_i t H11 hs11;have z6:Sep (tu t (Rw.tl (.hop r6 o))::_) _:=hs11.toT;exact q t (.hop r6 o) _ ⟨⟨by omega,by omega⟩,ho⟩ ((ao (n:=m+10) (z6.pull (A:=hand h _) (by symm)) nofun).sub (by ac_nf))
def AG {t:Addr}(r:Rw)(ro:Ro K R)(hk:5<=k)(ok:r.ok)(z:Sep (tu t r.tl::O) H)(q:∀ d H',Sep (nA R d r::tu t r.tl::O) H'->Q (.ref d) H'):ab tab R k rR [.ref t] H Q E:=by
 refine wc (d:=jP) nofun rfl rfl ?_;cases r with
 |lg w=>
  have f:∀ x ∈ ([("set":Str),"add","take","read","write","hop"]),dr (.str w.s) (.str x)=false:=by cases w<;>decide+kernel
  right;refine ak (f "set" (by decide)) ?_;right;refine ak (f "add" (by decide)) ?_;right;refine ak (f "take" (by decide)) ?_;right;refine ak (f "read" (by decide)) ?_;right;refine ak (f "write" (by decide)) ?_;right;refine ak (f "hop" (by decide)) ?_;right;exact Gq w nofun z q
 |hop n o=>
  right
  repeat walk_at "sc"
  intro d dx g1 g2 g3;exact IA ro nofun ok.1.1 ok.1.2 ok.2 (hR z g1 g2 g3) (λH2 z2=>⟨rfl,q d H2 z2⟩)
 |sp s=>
  cases s with
  |set n i=>
   right
   repeat walk_at "sc"
   intro d dx g1 g2 g3;exact Iz ro nofun ok.1 ok.2 (hR z g1 g2 g3) (λH2 z2=>⟨rfl,q d H2 z2⟩)
  |add n i=>
   right
   repeat walk_at "sc"
   intro d dx g1 g2 g3;exact JO ro nofun ok.1 ok.2 (hR z g1 g2 g3) (λH2 z2=>⟨rfl,q d H2 z2⟩)
  |take n m=>
   right
   repeat walk_at "sc"
   intro d dx g1 g2 g3;exact Ji ro nofun (hR z g1 g2 g3) (λH2 z2=>⟨rfl,q d H2 z2⟩)
  |read n=>
   right
   repeat walk_at "sc"
   intro d dx g1 g2 g3;exact Iw ro nofun (hR z g1 g2 g3) (λH2 z2=>⟨rfl,q d H2 z2⟩)
  |write n=>
   right
   repeat walk_at "sc"
   intro d dx g1 g2 g3;exact IE ro nofun (hR z g1 g2 g3) (λH2 z2=>⟨rfl,q d H2 z2⟩)
def Ko {l:Int}:fin l=0\/fin l=1:=by
 unfold fin
 split
 ·exact .inr rfl
 ·exact .inl rfl
abbrev idx (wd:Wd)(x:Bx):Int:=match wd with
 | .fill=>x.t
 | .shift=>if x.t<=x.h then x.h else x.h+x.l-1
 |_=>x.h
abbrev dir (wd:Wd)(x:Bx):Int:=match wd with
 | .shift=>if x.t<=x.h then 1 else -1
 | .turn=>1
 |_=>x.w
abbrev gone (n:Nat)(w h h':Int):Prop:=h'=h\/(0<=h/\h<n)/\(h'=h+w\/h'=h+1)
def i6 {d:Str}{w h:Int}(m:ai ws d h=true):gone ws.length w h (h+w):=.inr ⟨av m,.inl rfl⟩
def sW {d:Str}{w h:Int}(m:ai ws d h=true):gone ws.length w h (h+1):=.inr ⟨av m,.inr rfl⟩
abbrev AR (x x':Bx)(n:Nat):Prop:=x'.w=x.w/\(0<=x.l->0<=x'.l)/\(x.ok->n<=60->x'.ok)
def cz {h' t' l' m':Int}(hh:gone n x.w x.h h')(ht:gone n x.w x.t t')(hl:0<=x.l->0<=l'/\l'<=x.l)(hm:m'=x.m\/m'=0\/m'=1):AR x ⟨h',t',l',x.w,x.s,m'⟩ n:=by
 refine ⟨rfl,λz=>(hl z).1,λok hn=>?_⟩;obtain ⟨o1,o2,o3,o4,o5,o6⟩:=ok;have b:=hl o3.1;have gg:∀ {h h':Int},gone n x.w h h'-> -1000000000<=h/\h<=1000000000-> -1000000000<=h'/\h'<=1000000000:=λ{h h'} g o=>by
  rcases g with rfl|⟨g,e⟩
  ·exact o
  ·omega
 exact ⟨gg hh o1,gg ht o2,⟨b.1,Int.le_trans b.2 o3.2⟩,o4,o5,hm.elim (λe=>o6.imp (e.trans ·) (e.trans ·)) id⟩
def aT {P:Out->Prop}{c:Prop} [Decidable c] {a b:Out}(h:c->P a)(g:¬ c->P b):P (if c then a else b):=by
 by_cases e:c
 ·rw[if_pos e];exact h e
 ·rw[if_neg e];exact g e
def HS {l:Int}(e:¬ l=0)(z:0<=l):0<=l+ -1/\l+ -1<=l:=by omega
section
variable {P:Out->Prop}{wd:Wd}{x:Bx}{cs:List Int}{ws:List Str}
def zl {j:Int}{f:List Int->Out}(no:∀ (d:Str) (c:Int),d="look"\/d="put"->P (.no d c)) (h:ai ws "look" i=true->ai ws "put" j=true->P (f (cs.set j.toNat (gt cs i)))):P (hm cs ws i j f):=
 aT (λa=>aT (h a) (λ_=>no _ _ (.inr rfl))) (λ_=>no _ _ (.inl rfl))
def yG (done:∀ x',AR x x' ws.length->P (.on 1 x' cs)) (no:∀ (d:Str) (c:Int),d="look"\/d="put"->P (.no d c))
  (go:∀ x' cs',AR x x' ws.length->cs'.length=cs.length->(0<=idx wd x/\idx wd x<ws.length)/\idx wd x'=idx wd x+dir wd x/\dir wd x'=dir wd x->P (.on (fin x'.l) x' cs')):P (cY wd x cs ws):=by
 have sm:∀ {m':Int},m'=x.m\/m'=0\/m'=1->AR x ⟨x.h,x.t,x.l,x.w,x.s,m'⟩ ws.length:=λe=>cz (.inl rfl) (.inl rfl) (λz=>⟨z,Int.le_refl _⟩) e
 have lk:∀ {c},P (.no "look" c):=no _ _ (.inl rfl);have pu:∀ {c},P (.no "put" c):=no _ _ (.inr rfl);cases wd
 ·exact aT (λ_=>done _ (sm (.inl rfl))) λe=>zl no λa b=>go _ _ (cz (i6 a) (i6 b) (HS e) (.inl rfl)) (length_set ..) ⟨av a,rfl,rfl⟩
 ·exact aT (λ_=>done _ (sm (.inl rfl))) λe=>aT (λb=>go _ _ (cz (.inl rfl) (i6 b) (HS e) (.inl rfl)) (length_set ..) ⟨av b,rfl,rfl⟩) λ_=>pu
 ·exact aT (λ_=>done _ (sm (.inr (.inl rfl)))) λe=>aT (λa=>aT (λ_=>done _ (sm (.inr (.inr rfl)))) λ_=>go _ _ (cz (i6 a) (.inl rfl) (HS e) (.inr (.inl rfl))) rfl ⟨av a,rfl,rfl⟩) λ_=>lk
 ·exact aT (λ_=>done _ (sm (.inr (.inr rfl)))) λe=>aT (λa=>aT (λb=>aT (λ_=>go _ _ (cz (i6 a) (i6 b) (HS e) (.inr (.inr rfl))) rfl ⟨av a,rfl,rfl⟩) λ_=>done _ (sm (.inr (.inl rfl)))) λ_=>lk) λ_=>lk
 ·refine aT (λ_=>done _ (sm (.inl rfl))) λe=>aT (λc=>zl no λa b=>go _ _ (cz (sW a) (sW b) (HS e) (.inl rfl)) (length_set ..) ?_) λc=>zl no λa b=>go _ _ (cz (.inl rfl) (.inl rfl) (HS e) (.inl rfl)) (length_set ..) ?_
  ·have g:=av a;unfold idx dir;dsimp only;rw[if_pos c,if_pos c,if_pos nofun,if_pos nofun];exact ⟨g,rfl,rfl⟩
  ·have g:=av a;unfold idx dir;dsimp only;rw[if_neg c,if_neg c];exact ⟨g,by omega,rfl⟩
 ·exact aT (λ_=>done _ (sm (.inl rfl))) λe=>aT (λc=>done _ (cz (.inl rfl) (.inl rfl) (λz=>⟨Int.le_refl _,z⟩) (.inl rfl))) λc=>
   aT (λa=>aT (λ_=>aT (λ_=>aT (λ_=>go _ _ (cz (sW a) (.inl rfl) (λz=>by omega) (.inl rfl)) ((length_set ..).trans (length_set ..)) ⟨av a,rfl,rfl⟩) λ_=>pu) λ_=>pu) λ_=>lk) λ_=>lk
end
variable {x':Bx}
def uf {cs:List Int}(h:cY wd x cs ws=.on r x' cs'):
  AR x x' ws.length/\cs'.length=cs.length/\(r=0\/r=1)/\(r=0->(0<=idx wd x/\idx wd x<ws.length)/\idx wd x'=idx wd x+dir wd x/\dir wd x'=dir wd x):=by
 revert h
 refine yG (P:=λo=>o=.on r x' cs'->_) (λy w e=>?_) (λ_ _ _ e=>by cases e) (λy c w l g e=>?_)
 ·cases e;exact ⟨w,rfl,.inr rfl,λz=>by cases z⟩
 ·cases e;exact ⟨w,l,Ko,λ_=>g⟩
def yU {cs:List Int}{d:Str}(h:cY wd x cs ws=.no d c):d="look"\/d="put":=by
 revert h
 exact yG (P:=λo=>o=.no d c->_) (λ_ _ e=>by cases e) (λ_ _ h e=>by cases e;exact h) (λ_ _ _ _ _ e=>by cases e)
def xZ {cs:List Int}{r:Rw}{d:Str}(h:eX x cs ws r=.no d c):d="look"\/d="put":=by
 have gv:∀ {b:Bn}{i:Int},j0 (bq x cs b i)≠.no d c:=λ{b i} e=>by
  unfold bq at e
  split at e<;>cases e
 cases r with
 |lg w=>
  have h:ofM (cY w x cs ws)=.no d c:=h;cases e:cY w x cs ws with
  |on r x' cs'=>rw[e] at h;cases h
  |no d' c'=>rw[e] at h;cases h;exact yU e
 |hop n o=>cases h
 |sp s=>
  cases s with
  |set n i=>exact absurd h gv
  |add n i=>exact absurd h gv
  |take n m=>exact absurd h gv
  |read n=>
   have h:j0 (if ai ws "look" x.h=true then bq x cs n (gt cs x.h) else .no "look" x.h)=.no d c:=h
   split at h
   ·exact absurd h gv
   ·cases h;exact .inl rfl
  |write n=>
   have h:j0 (if fO (.int (x.g n))=true then (if ai ws "put" x.t=true then .on x (cs.set x.t.toNat (x.g n)) else .no "put" x.t) else .nf n (x.g n))=.no d c:=h
   split at h
   ·split at h
    ·cases h
    ·cases h;exact .inr rfl
   ·cases h
abbrev gh (O:List aB)(ss:List V)(rs:List Rw):Prop:=ss.length=rs.length/\(∀ r ∈ rs,r.ok)/\∀ (i:Nat) (r:Rw),rs[i]? =some r->∃ t Δ,ss[i]? =some (V.ref t)/\ag (tu t r.tl) O Δ
def gh.more (h:gh O ss rs):gh (A::O) ss rs:=⟨h.1,h.2.1,λi r e=>by
 obtain ⟨a,Δ,e2,p⟩:=h.2.2 i r e;exact ⟨a,_,e2,.t p⟩⟩
noncomputable abbrev ir (w d p lv:Addr)(at_:Int)(x:Bx)(cs:List Int)(ws:List Str)(O:List aB):List aB:=pt w (.lst [.int at_,.ref d,.ref p,.ref lv])::aq d x::pt p (.lst (cs.map V.int))::pt lv (.lst (ws.map V.str))::O
section
variable {w d p lv SP:Addr}{at_:Int}{ss:List V}{rs:List Rw}{x:Bx}{cs:List Int}{ws:List Str}
def zL (hk:4<=k)(h0:0<=at_)(h1:at_<=ss.length)(hx:0<=x.l)(hl:cs.length=ws.length)(hs:gh O ss rs)(z:Sep (ir w d p lv at_ x cs ws (pt SP (.lst ss)::O)) H)
  (q:∀ H',Sep (ir w d p lv (mS rs at_ x cs ws).at_ (mS rs at_ x cs ws).x (mS rs at_ x cs ws).cs ws (pt SP (.lst ss)::O)) H'->Q (.str (mS rs at_ x cs ws).w) H'):ab tab R k jU [.ref SP,.ref w] H Q E:=by
 refine wc (d:=jF) nofun rfl rfl ?_;have hl1:=hs.1;unfold mS at q;right;refine az (λhe=>?_) (λhe=>?_)
 ·rw[List.getElem?_eq_none nofun] at q;right;exact q H z
 ·have hlt:at_.toNat<rs.length:=by omega
  have er:rs[at_.toNat]? =some rs[at_.toNat]:=li hlt;have ok:=hs.2.1 _ (getElem_mem hlt);generalize rs[at_.toNat]=r at er ok;obtain ⟨t,Δ,e2,pt_⟩:=hs.2.2 _ _ er;rw[er] at q;dsimp only at q;right;refine aD (i:=at_) (by grind) (aw h0 e2) ?_;right;refine yk (O:=pt w (.lst [.int at_,.ref d,.ref p,.ref lv])::pt SP (.lst ss)::O) r nofun ok hx hl (Sep.Kk (z.ef (.t (.t (.t (.t (.t pt_)))))) (z.sub (by ac_nf))) (λtd H2 z2=>?_);clear z;generalize ho:eX x cs ws r=o at q z2;cases o with
  |on n x' cs'=>
   have z2:Sep (pt td (.tup [.str "on",.int n,.int 0])::tu t r.tl::aq d x'::pt p (.lst (cs'.map V.int))::pt lv (.lst (ws.map V.str))::pt w (.lst [.int at_,.ref d,.ref p,.ref lv])::pt SP (.lst ss)::O) H2:=z2;right
   repeat walk_at "sc"
   rename_i H3 z3;rw[show min (ss.length:Int) (at_+n)=min (at_+n) rs.length by rw[Int.min_comm,hl1]] at z3;exact q H3 (z3.sub (by ac_nf))
  |no dd c=>
   have z2:Sep (pt td (.tup [.str dd,.int c,.int 0])::tu t r.tl::aq d x::pt p (.lst (cs.map V.int))::pt lv (.lst (ws.map V.str))::pt w (.lst [.int at_,.ref d,.ref p,.ref lv])::pt SP (.lst ss)::O) H2:=z2;right;refine ak (by rcases xZ ho with rfl|rfl<;>decide+kernel) ?_;right;exact q H2 (z2.sub (by ac_nf))
  |nf n i=>
   have z2:Sep (pt td (.tup [.str "fit",.str n.nm,.int i])::tu t r.tl::aq d x::pt p (.lst (cs.map V.int))::pt lv (.lst (ws.map V.str))::pt w (.lst [.int at_,.ref d,.ref p,.ref lv])::pt SP (.lst ss)::O) H2:=z2;right
   repeat walk_at "sc"
   exact q H2 (z2.sub (by ac_nf))
end
section
variable {m l s b:Addr}{at_:Int}{ds:List V}{rs:List Rw}{x:Bx}{cs:List Int}{ws:List Str}
def J9 {t t2 t1 t3 l1 l3:Addr}(h1:H t=some (.tup [.int at_,.ref t1,.ref l1]))(h2:H t2=some (.tup [.int at_,.ref t3,.ref l3]))(ea:gF R.K H 2 (.ref t1) (.ref t3) true)(eb:gF R.K H 2 (.ref l1) (.ref l3) true):gF R.K H 3 (.ref t) (.ref t2) true:=
 ui (n:=1) h1 h2 rfl λj x y e1 e2=>by
  rcases j with _|_|_|j
  ·cases e1;cases e2;exact fe (t:="int") rfl
  ·cases e1;cases e2;exact ea
  ·cases e1;cases e2;exact eb
  ·simp at e1
end
def set_same {l:List α}{a:α}(h:l[n]? =some a):l.set n a=l:=by
 apply List.ext_getElem?;intro i;rw[List.getElem?_set]
 split
 ·rename_i e;subst e;rw[h]
  split
  ·rfl
  ·rename_i h2;exact absurd (tz.mp h).1 h2
 ·rfl
def aa {A:aB}:∀ {L O Δ:List aB},ag A O Δ->ag A (L++O) (L++Δ)
 | [],_,_,h=>h
 |B::L,_,_,h=>.t (aa h)
def bh {α:Type}{f:α->aB}{x:α}:∀ {l:List α},x ∈ l->∃ Δ,∀ O,ag (f x) (l.map f++O) (Δ++O)
 |y::l,h=>by
  rcases nb.mp h with rfl|h
  ·exact ⟨l.map f,λO=>.e⟩
  ·obtain ⟨Δ,hp⟩:=bh (f:=f) h;exact ⟨f y::Δ,λO=>.t (hp O)⟩
abbrev sF (R:Rt)(p:Addr×Rw):aB:=nA R p.1 p.2
abbrev fM (p:Addr×Rw):aB:=tu p.1 p.2.tl
abbrev dD (p:Addr×Rw):V:=.ref p.1
def ki {L:List (Addr×Rw)}(h:L.map (·.2)=rs):gd R (L.reverse.map (sF R)++O) (L.map dD) rs:=by
 subst h;refine ⟨by simp,λi r e=>?_⟩;rw[io] at e;obtain ⟨⟨a,r'⟩,g,rfl⟩:=nw.mp e;obtain ⟨Δ,hp⟩:=bh (f:=sF R) (x:=(a,r')) (l:=L.reverse) (by have:=cr g;simpa using this);exact ⟨a,_,by rw[io,g];rfl,hp O⟩
def kZ {S:List (Addr×Rw)}(h:S.map (·.2)=rs)(ok:∀ r ∈ rs,Rw.ok r):gh (S.reverse.map fM++O) (S.map dD) rs:=by
 refine ⟨by rw[<-h];simp,ok,λi r e=>?_⟩;subst h;rw[io] at e;obtain ⟨⟨a,r'⟩,g,rfl⟩:=nw.mp e;obtain ⟨Δ,hp⟩:=bh (f:=fM) (x:=(a,r')) (l:=S.reverse) (by have:=cr g;simpa using this);exact ⟨a,_,by rw[io,g];rfl,hp O⟩
section
variable {d p lv SP:Addr}{at_:Int}{ss:List V}{rs:List Rw}{x:Bx}{cs:List Int}{ws:List Str}
end
def FN {cs:List Int}(h:cY wd x cs ws=.on r x' cs'):
  (r=0\/r=1)/\x'.w=x.w/\(r=0->0<=idx wd x/\idx wd x<ws.length/\idx wd x'=idx wd x+dir wd x/\dir wd x'=dir wd x):=
 have ⟨w,_,r,g⟩:=uf h
 ⟨r,w.1,λz=>⟨(g z).1.1,(g z).1.2,(g z).2⟩⟩
def gh.set {i:Nat}{t:Addr}{r:Rw}(h:gh O ss rs)(hi:i<rs.length)(ok:r.ok)(p:ag (tu t r.tl) O Δ):gh O (ss.set i (.ref t)) (rs.set i r):=by
 refine ⟨by rw[length_set,length_set];exact h.1,λr' hr=>?_,λj r' e=>?_⟩
 ·rcases mem_or_eq_of_mem_set hr with hr|rfl
  ·exact h.2.1 _ hr
  ·exact ok
 ·by_cases hj:i=j
  ·subst hj;rw[getElem?_set_self hi] at e;cases e;exact ⟨t,Δ,getElem?_set_self (by rw[h.1];exact hi),p⟩
  ·rw[getElem?_set_ne hj] at e;obtain ⟨a,Δ',e2,pp⟩:=h.2.2 j r' e;exact ⟨a,Δ',by rw[getElem?_set_ne hj];exact e2,pp⟩
def Cj {cs:List Int}{r:Rw}{n:Int}(ok:r.ok)(h:eX x cs ws r=.on n x' cs'):0<=n:=by
 cases r with
 |lg w=>
  have h:ofM (cY w x cs ws)=.on n x' cs':=h;cases e:cY w x cs ws with
  |no d c=>rw[e] at h;cases h
  |on r y ys=>
   rw[e] at h;cases h;rcases (FN e).1 with rfl|rfl<;>decide
 |hop m o=>
  cases h;have:=ok.1;cases o with
  |none=>show 0<=1+m;omega
  |some i=>
   show 0<=(if i=x.m then 1+m else 1)
   split<;>omega
 |sp s=>
  have h:j0 (jY x cs ws s)=.on n x' cs':=h;cases e:jY x cs ws s with
  |on y ys=>rw[e] at h;cases h;decide
  |no d c=>rw[e] at h;cases h
  |nf b i=>rw[e] at h;cases h
def vY {cs:List Int}(h0:0<=at_)(h1:at_<=rs.length)(hn:∀ r ∈ rs,Rw.ok r):0<=(mS rs at_ x cs ws).at_/\(mS rs at_ x cs ws).at_<=rs.length/\((mS rs at_ x cs ws).w="on"\/((mS rs at_ x cs ws).w="end"\/(mS rs at_ x cs ws).w="stop")/\(mS rs at_ x cs ws).at_=at_/\(mS rs at_ x cs ws).x=x/\(mS rs at_ x cs ws).cs=cs):=by
 unfold mS;cases e:rs[at_.toNat]? with
 |none=>exact ⟨h0,h1,.inr ⟨.inl rfl,rfl,rfl,rfl⟩⟩
 |some r=>
  have ok:=hn r (cr e);dsimp only;cases ho:eX x cs ws r with
  |no d c=>exact ⟨h0,h1,.inr ⟨.inr rfl,rfl,rfl,rfl⟩⟩
  |nf b i=>exact ⟨h0,h1,.inr ⟨.inr rfl,rfl,rfl,rfl⟩⟩
  |on n x' cs'=>
   have hn0:0<=n:=Cj ok ho;refine ⟨?_,?_,.inl rfl⟩
   ·show 0<=min (at_+n) (rs.length:Int)
    omega
   ·show min (at_+n) (rs.length:Int)<=rs.length
    omega
def K3 {w:Str}:dr (.str w) (.str w)=true:=by show (w ==w)=true;simp
structure jr where
 n:Nat
 at_:Int
 x:Bx
 cs:List Int
abbrev rN (rs:List Rw)(ws:List Str):Nat->Int->Bx->List Int->jr
 |0,at_,x,cs=>⟨0,at_,x,cs⟩
 |n+1,at_,x,cs=>if (mS rs at_ x cs ws).w="on" then ⟨(rN rs ws n (mS rs at_ x cs ws).at_ (mS rs at_ x cs ws).x (mS rs at_ x cs ws).cs).n+1,(rN rs ws n (mS rs at_ x cs ws).at_ (mS rs at_ x cs ws).x (mS rs at_ x cs ws).cs).at_,(rN rs ws n (mS rs at_ x cs ws).at_ (mS rs at_ x cs ws).x (mS rs at_ x cs ws).cs).x,(rN rs ws n (mS rs at_ x cs ws).at_ (mS rs at_ x cs ws).x (mS rs at_ x cs ws).cs).cs⟩ else ⟨0,at_,x,cs⟩
abbrev rW (rs:List Rw)(n:Nat)(r:jr):Str:=if r.at_=(rs.length:Int) then "end" else if n<=r.n then "bell" else "stop"
def uN {rs:List Rw}{ws:List Str}(ok:∀ r ∈ rs,Rw.ok r):∀ {n:Nat}{at_:Int}{x:Bx}{cs:List Int},0<=at_->at_<=rs.length->(rN rs ws n at_ x cs).n<=n/\0<=(rN rs ws n at_ x cs).at_/\(rN rs ws n at_ x cs).at_<=rs.length
 |0,at_,x,cs,h0,h1=>⟨re _,h0,h1⟩
 |n+1,at_,x,cs,h0,h1=>by
  unfold rN
  split
  ·obtain ⟨g0,g1,_⟩:=vY (x:=x) (cs:=cs) (ws:=ws) h0 h1 ok;obtain ⟨a,b,c⟩:=uN ok (n:=n) (x:=(mS rs at_ x cs ws).x) (cs:=(mS rs at_ x cs ws).cs) g0 g1;exact ⟨Nat.succ_le_succ a,b,c⟩
  ·exact ⟨Nat.zero_le _,h0,h1⟩
section
variable {m l s b:Addr}{at_:Int}{ds:List V}{rs:List Rw}{x:Bx}{cs:List Int}{ws:List Str}
def Fw (ro:Ro K R)(hk:12<=k)(h0:0<=at_)(h1:at_<=rs.length)(hok:∀ r ∈ rs,Rw.ok r) (hd:gd R O ds rs) (z:Sep (k8 R m l s b at_ ds::aS R s cs ws::aJ R b x::O) H)
  (q:∀ t H',Sep (pt t (.tup [.str (rW rs n (rN rs ws n at_ x cs)),.int ((rN rs ws n at_ x cs).n:Int)])::k8 R m l s b (rN rs ws n at_ x cs).at_ ds::aS R s (rN rs ws n at_ x cs).cs ws::aJ R b (rN rs ws n at_ x cs).x::O) H'->Q (.ref t) H'):ab tab R k mr [.ref m,.int (n:Int)] H Q E:=by
 refine wc (d:=dg) nofun rfl rfl ?_;have e1:=hd.1;obtain ⟨f0,f1,f2⟩:=uN (ws:=ws) (n:=n) (x:=x) (cs:=cs) hok h0 h1;generalize hF:rN rs ws n at_ x cs=F at q f0 f1 f2
 right;have out:∀ {D:Ends}{E:St->XK}{H':Hp},D.rt=Q->Sep (k8 R m l s b F.at_ ds::aS R s F.cs ws::aJ R b F.x::O) H'->wB (eU 2 dg.body) ⟨tab,R,ab tab R (k-1),true⟩ D E [some (.ref m),some (.int (n:Int)),some (.int (F.n:Int))] H':=λ{D E H'} hD z=>by
  rw[<-hD] at q;unfold rW at q;right;refine ae uR z .e rfl rfl ?_;left;refine uG nofun z .e ?_
  by_cases he:F.at_=ds.length
  ·rw[decide_eq_true he];rw[if_pos nofun] at q;right;rename_i t H3 z3;exact q t H3 z3
  ·rw[decide_eq_false he];rw[if_neg nofun] at q;right;refine ax (λg=>?_) (λg=>?_)
   ·rw[if_pos nofun] at q;right;rename_i t H3 z3;exact q t H3 z3
   ·rw[if_neg nofun] at q;right;rename_i t H3 z3;exact q t H3 z3
 refine ⟨λμ U H=>∃ j:Nat,∃ at_ x cs,μ=n-j/\j<=n/\0<=at_/\at_<=(rs.length:Int)/\rN rs ws (n-j) at_ x cs=⟨F.n-j,F.at_,F.x,F.cs⟩/\j<=F.n/\U=[some (.ref m),some (.int (n:Int)),some (.int (j:Int))]/\Sep (k8 R m l s b at_ ds::aS R s cs ws::aJ R b x::O) H,⟨n,0,at_,x,cs,rfl,Nat.zero_le _,h0,h1,hF,Nat.zero_le _,rfl,z⟩,?_⟩;rintro μ U H ⟨j,at2,x2,cs2,rfl,hj,a0,a1,hr,hjF,rfl,z2⟩;right;refine ax (λg=>?_) (λg=>?_)
 ·have ej:n-j=(n-(j+1))+1:=by omega
  rw[ej] at hr;unfold rN at hr;obtain ⟨g0,g1,g2⟩:=vY (x:=x2) (cs:=cs2) (ws:=ws) a0 a1 hok;right;refine ae uR z2 .e rfl rfl ?_;left;refine uK (rs:=rs) ro nofun a0 nofun hd z2 (λH3 z3=>?_);generalize hm:mS rs at2 x2 cs2 ws=M at hr z3 g0 g1 g2;obtain ⟨word,at3,x3,cs3⟩:=M;dsimp only at hr z3 g0 g1 g2;right;rcases g2 with rfl|⟨hw,rfl,rfl,rfl⟩
  ·rw[if_pos rfl] at hr;have r1:=congrArg jr.n hr;have r2:=congrArg jr.at_ hr;have r3:=congrArg jr.x hr;have r4:=congrArg jr.cs hr;dsimp only at r1 r2 r3 r4;refine aK (K3 (w:="on")) ?_;refine ⟨λU H=>∃ at_ x cs,0<=at_/\at_<=(rs.length:Int)/\rN rs ws (n-(j+1)) at_ x cs=⟨F.n-(j+1),F.at_,F.x,F.cs⟩/\U=[some (.ref m),some (.int (n:Int)),some (.int ((j+1:Nat):Int))]/\Sep (k8 R m l s b at_ ds::aS R s cs ws::aJ R b x::O) H,?_,?_⟩
   ·rintro σ' H' ⟨a,y,c,b0,b1,b2,rfl,b4⟩;exact ⟨n-(j+1),by omega,j+1,a,y,c,rfl,by omega,b0,b1,b2,by omega,rfl,b4⟩
   ·right;refine ⟨at3,x3,cs3,g0,g1,?_,rfl,z3⟩;generalize rN rs ws (n-(j+1)) at3 x3 cs3=G at r1 r2 r3 r4⊢;obtain ⟨gn,ga,gx,gc⟩:=G;dsimp only at r1 r2 r3 r4;subst r2 r3 r4;rw[show gn=F.n-(j+1) by omega]
  ·have hne:¬ (word="on"):=by rcases hw with rfl|rfl<;>decide+kernel
   rw[if_neg hne] at hr;have r1:=congrArg jr.n hr;have r2:=congrArg jr.at_ hr;have r3:=congrArg jr.x hr;have r4:=congrArg jr.cs hr;dsimp only at r1 r2 r3 r4;refine ak (by show (word =="on")=false;simpa using hne) ?_;have r2:at3=F.at_:=r2;have r3:x3=F.x:=r3;have r4:cs3=F.cs:=r4;subst r2 r3 r4;rw[show (j:Int)=(F.n:Int) by omega];exact out rfl z3
 ·have ej:n-j=0:=by omega
  rw[ej] at hr;have r1:=congrArg jr.n hr;have r2:=congrArg jr.at_ hr;have r3:=congrArg jr.x hr;have r4:=congrArg jr.cs hr;have r1:0=F.n-j:=r1;have r2:at2=F.at_:=r2;have r3:x2=F.x:=r3;have r4:cs2=F.cs:=r4;subst r2 r3 r4;rw[show (j:Int)=(F.n:Int) by omega];refine ak rfl ?_;exact out rfl z2
end
def Bl {cs:List Int}(hx:0<=x.l)(h:cY wd x cs ws=.on r x' cs'):0<=x'.l/\cs'.length=cs.length:=
 ⟨(uf h).1.2.1 hx,(uf h).2.1⟩
def hX {cs:List Int}{b:Bn}(hx:0<=x.l)(h:bq x cs b i=.on x' cs'):0<=x'.l/\cs'.length=cs.length:=by
 unfold bq at h
 by_cases e:bg b i=true
 ·rw[if_pos e] at h;cases h;refine ⟨?_,rfl⟩;cases b
  ·exact hx
  ·exact hx
  ·have e:(decide (0<=i)&&decide (i<=1000000000))=true:=e;have e:0<=i/\i<=1000000000:=by simpa using e
   exact e.1
  ·exact hx
  ·exact hx
  ·exact hx
 ·rw[if_neg e] at h;cases h
def v7 {cs:List Int}{s:Sp}(hx:0<=x.l)(h:jY x cs ws s=.on x' cs'):0<=x'.l/\cs'.length=cs.length:=by
 cases s with
 |set b i=>exact hX hx h
 |add b i=>exact hX hx h
 |take b c=>exact hX hx h
 |read b=>
  have h:(if ai ws "look" x.h=true then bq x cs b (gt cs x.h) else .no "look" x.h)=.on x' cs':=h
  by_cases e:ai ws "look" x.h=true
  ·rw[if_pos e] at h;exact hX hx h
  ·rw[if_neg e] at h;cases h
 |write b=>
  have h:(if fO (.int (x.g b))=true then (if ai ws "put" x.t=true then .on x (cs.set x.t.toNat (x.g b)) else .no "put" x.t) else .nf b (x.g b))=wN.on x' cs':=h
  by_cases e:fO (.int (x.g b))=true
  ·rw[if_pos e] at h
   by_cases e2:ai ws "put" x.t=true
   ·rw[if_pos e2] at h;cases h;exact ⟨hx,length_set ..⟩
   ·rw[if_neg e2] at h;cases h
  ·rw[if_neg e] at h;cases h
def w8 {cs:List Int}{r:Rw}{n:Int}(hx:0<=x.l)(h:eX x cs ws r=.on n x' cs'):0<=x'.l/\cs'.length=cs.length:=by
 cases r with
 |lg w=>
  have h:ofM (cY w x cs ws)=.on n x' cs':=h;cases e:cY w x cs ws with
  |no d c=>rw[e] at h;cases h
  |on r y ys=>
   rw[e] at h;cases h;exact Bl hx e
 |hop m o=>cases h;exact ⟨hx,rfl⟩
 |sp s=>
  have h:j0 (jY x cs ws s)=.on n x' cs':=h;cases e:jY x cs ws s with
  |on y ys=>rw[e] at h;cases h;exact v7 hx e
  |no d c=>rw[e] at h;cases h
  |nf b i=>rw[e] at h;cases h
def fD {cs:List Int}(hx:0<=x.l):0<=(mS rs at_ x cs ws).x.l/\(mS rs at_ x cs ws).cs.length=cs.length:=by
 unfold mS;cases e:rs[at_.toNat]? with
 |none=>exact ⟨hx,rfl⟩
 |some r=>
  dsimp only;cases ho:eX x cs ws r with
  |no d c=>exact ⟨hx,rfl⟩
  |nf b i=>exact ⟨hx,rfl⟩
  |on n x' cs'=>exact w8 hx ho
def vT {rs:List Rw}{ws:List Str}:∀ {n:Nat}{at_:Int}{x:Bx}{cs:List Int},0<=x.l->0<=(rN rs ws n at_ x cs).x.l/\(rN rs ws n at_ x cs).cs.length=cs.length
 |0,at_,x,cs,h=>⟨h,rfl⟩
 |n+1,at_,x,cs,h=>by
  unfold rN
  split
  ·obtain ⟨g0,g1⟩:=fD (rs:=rs) (at_:=at_) (cs:=cs) (ws:=ws) h;obtain ⟨a,b⟩:=vT (n:=n) (at_:=(mS rs at_ x cs ws).at_) (cs:=(mS rs at_ x cs ws).cs) (ws:=ws) (rs:=rs) g0;exact ⟨a,b.trans g1⟩
  ·exact ⟨h,rfl⟩
section
variable {w d p lv SP:Addr}{at_:Int}{ss:List V}{rs:List Rw}{x:Bx}{cs:List Int}{ws:List Str}
def II (hk:5<=k)(h0:0<=at_)(h1:at_<=rs.length)(hx:0<=x.l)(hl:cs.length=ws.length)(hs:gh O ss rs)(z:Sep (ir w d p lv at_ x cs ws (pt SP (.lst ss)::O)) H)
  (q:∀ t H',Sep (pt t (.tup [.str (rW rs n (rN rs ws n at_ x cs)),.int ((rN rs ws n at_ x cs).n:Int)])::ir w d p lv (rN rs ws n at_ x cs).at_ (rN rs ws n at_ x cs).x (rN rs ws n at_ x cs).cs ws (pt SP (.lst ss)::O)) H'->Q (.ref t) H'):ab tab R k kE [.ref SP,.ref w,.int (n:Int)] H Q E:=by
 refine wc (d:=gI) nofun rfl rfl ?_;have e1:=hs.1;have hok:=hs.2.1;obtain ⟨f0,f1,f2⟩:=uN (ws:=ws) (n:=n) (x:=x) (cs:=cs) hok h0 h1;generalize hF:rN rs ws n at_ x cs=F at q f0 f1 f2
 right;have out:∀ {D:Ends}{E:St->XK}{u:Option V}{H':Hp},D.rt=Q->Sep (ir w d p lv F.at_ F.x F.cs ws (pt SP (.lst ss)::O)) H'->wB (eU 3 gI.body) ⟨tab,R,ab tab R (k-1),true⟩ D E [some (.ref SP),some (.ref w),some (.int (n:Int)),some (.int (F.n:Int)),u] H':=λ{D E u H'} hD z=>by
  rw[<-hD] at q;unfold rW at q;right;refine az (λhe=>?_) (λhe=>?_)
  ·rw[if_pos nofun] at q;right;rename_i t H3 z3;exact q t H3 z3
  ·rw[if_neg nofun] at q;right;rename_i l3 H3 z3
   by_cases g:n<=F.n
   ·rw[if_pos g] at q;have e:dr (.int (F.n:Int)) (.int (n:Int))=true:=by
     show ((F.n:Int) ==(n:Int))=true;rw[beq_iff_eq];omega
    rw[e];refine dI ?_;refine aD (xs:=[.str "stop",.str "bell"]) (i:=1) (by grind) rfl ?_;right;rename_i t H4 z4;exact q t H4 (z4.sub (by ac_nf))
   ·rw[if_neg g] at q;have e:dr (.int (F.n:Int)) (.int (n:Int))=false:=by
     show ((F.n:Int) ==(n:Int))=false;rw[beq_eq_false_iff_ne];omega
    rw[e];refine dI ?_;refine aD (xs:=[.str "stop",.str "bell"]) (i:=0) (by grind) rfl ?_;right;rename_i t H4 z4;exact q t H4 (z4.sub (by ac_nf))
 refine ⟨λμ U H=>∃ j:Nat,∃ b:Nat,∃ wd:Str,∃ at_ x cs,μ=n-j+b/\j<=n/\0<=at_/\at_<=(rs.length:Int)/\0<=x.l/\cs.length=ws.length/\((wd="on"/\b=1/\rN rs ws (n-j) at_ x cs=⟨F.n-j,F.at_,F.x,F.cs⟩)\/((wd="end"\/wd="stop")/\b=0/\j=F.n/\at_=F.at_/\x=F.x/\cs=F.cs))/\j<=F.n/\U=[some (.ref SP),some (.ref w),some (.int (n:Int)),some (.int (j:Int)),some (.str wd)]/\Sep (ir w d p lv at_ x cs ws (pt SP (.lst ss)::O)) H,⟨n+1,0,1,"on",at_,x,cs,rfl,Nat.zero_le _,h0,h1,hx,hl,.inl ⟨rfl,rfl,hF⟩,Nat.zero_le _,rfl,z⟩,?_⟩;rintro μ U H ⟨j,b,wd,at2,x2,cs2,rfl,hj,a0,a1,hx2,hl2,hr,hjF,rfl,z2⟩;right;refine ax (λg=>?_) (λg=>?_)
 ·right;rcases hr with ⟨rfl,rfl,hr⟩|⟨hw,rfl,r1,r2,r3,r4⟩
  ·have ej:n-j=(n-(j+1))+1:=by omega
   rw[ej] at hr;unfold rN at hr;obtain ⟨g0,g1,g2⟩:=vY (x:=x2) (cs:=cs2) (ws:=ws) a0 a1 hok;obtain ⟨g3,g4⟩:=fD (rs:=rs) (at_:=at2) (cs:=cs2) (ws:=ws) hx2;refine aK (K3 (w:="on")) ?_;refine ⟨λU H=>∃ m',m'<n-j+1/\_,λ_ _ h=>h,?_⟩;right;refine zL (rs:=rs) nofun a0 nofun hx2 hl2 hs z2 (λH3 z3=>?_);generalize hm:mS rs at2 x2 cs2 ws=M at hr z3 g0 g1 g2 g3 g4;obtain ⟨word,at3,x3,cs3⟩:=M;dsimp only at hr z3 g0 g1 g2 g3 g4;right;rcases g2 with rfl|⟨hw,rfl,rfl,rfl⟩
   ·rw[if_pos rfl] at hr;have r1:=congrArg jr.n hr;have r2:=congrArg jr.at_ hr;have r3:=congrArg jr.x hr;have r4:=congrArg jr.cs hr;dsimp only at r1 r2 r3 r4;rw[show dr (.str "on") (.str "on")=true from K3];refine dI ?_;right;refine ⟨n-(j+1)+1,by omega,j+1,1,"on",at3,x3,cs3,rfl,by omega,g0,g1,g3,g4.trans hl2,.inl ⟨rfl,rfl,?_⟩,by omega,?_,z3⟩
    ·generalize rN rs ws (n-(j+1)) at3 x3 cs3=G at r1 r2 r3 r4⊢;obtain ⟨gn,ga,gx,gc⟩:=G;dsimp only at r1 r2 r3 r4;subst r2 r3 r4;rw[show gn=F.n-(j+1) by omega]
    ·rfl
   ·have hne:¬ (word="on"):=by rcases hw with rfl|rfl<;>decide+kernel
    rw[if_neg hne] at hr;have r1:=congrArg jr.n hr;have r2:=congrArg jr.at_ hr;have r3:=congrArg jr.x hr;have r4:=congrArg jr.cs hr;have r1:0=F.n-j:=r1;have e:dr (.str word) (.str "on")=false:=by show (word =="on")=false;simpa using hne
    rw[e];refine dI ?_;right;refine ⟨n-j+0,by omega,j,0,word,at3,x3,cs3,rfl,hj,a0,a1,hx2,hl2,.inr ⟨hw,rfl,by omega,r2,r3,r4⟩,hjF,?_,z3⟩;rw[show ((j:Int)+b2i false)=j from Int.add_zero _]
    rfl
  ·refine ak (by rcases hw with rfl|rfl<;>decide+kernel) ?_;subst r2 r3 r4;rw[show (j:Int)=(F.n:Int) by omega];exact out rfl z2
 ·refine ak rfl ?_;have:j=F.n/\at2=F.at_/\x2=F.x/\cs2=F.cs:=by
   rcases hr with ⟨rfl,rfl,hr⟩|⟨hw,rfl,r1,r2,r3,r4⟩
   ·have ej:n-j=0:=by omega
    rw[ej] at hr;have r1:0=F.n-j:=congrArg jr.n hr;exact ⟨by omega,congrArg jr.at_ hr,congrArg jr.x hr,congrArg jr.cs hr⟩
   ·exact ⟨r1,r2,r3,r4⟩
  obtain ⟨r1,r2,r3,r4⟩:=this;subst r2 r3 r4;rw[show (j:Int)=(F.n:Int) by omega];exact out rfl z2
end
def Sep.mv:∀ {L P Δ O:List aB}{H:Hp},Sep (P++(Δ++(L++O))) H->Sep (P++(L++(Δ++O))) H
 | [],_,_,_,_,z=>z
 |A::L,P,Δ,O,H,z=>(Sep.mv (L:=L) (P:=A::P) (Δ:=Δ) (O:=O) (z.pull (aa (aa .e)))).push (aa .e)
def aj {α:Type}{f:α->aB}{x:α}:∀ {l:List α}{i:Nat},l[i]? =some x->∀ {O:List aB},ag (f x) (l.map f++O) ((l.eraseIdx i).map f++O)
 |y::l,0,h,O=>by cases h;exact .e
 |y::l,i+1,h,O=>.t (aj (l:=l) (i:=i) h)
def cG {α:Type}{f:α->aB}{x y:α}:∀ {l:List α}{i:Nat},l[i]? =some x->∀ {O:List aB},ag (f y) ((l.set i y).map f++O) ((l.eraseIdx i).map f++O)
 |z::l,0,h,O=>.e
 |z::l,i+1,h,O=>.t (cG (l:=l) (i:=i) h)
def mW {b:Addr}{j i2 j2:Int}(hk:1<=k)(z:Sep O H)(e1:H a=some (.tup [.int i,.int j]))(e2:H b=some (.tup [.int i2,.int j2]))(hd:min j j2<=max i i2)(q:Q .non H):ab tab R k qy [.ref a,.ref b] H Q E:=by
 refine wc (d:=l9) nofun rfl rfl ?_;right;refine bH e1 rfl ?_;right;refine bH e2 rfl ?_;right;refine bH e1 rfl ?_;right;refine bH e2 rfl ?_;right;refine ax (λh=>absurd h nofun) (λh=>?_);right;exact q
def Ao (h:n<=xs.length):gE xs none (some (n:Int))=xs.take n:=by
 unfold gE;show (xs.drop 0).take ((if (n:Int)<0 then ((n:Int)+(xs.length:Int)).toNat else min (n:Int).toNat xs.length)-0)=_;rw[if_neg nofun,sn,Nat.min_eq_left h]
 rfl
def Be (h:n<=xs.length):gE xs (some (n:Int)) none=xs.drop n:=by
 unfold gE;show (xs.drop (if (n:Int)<0 then ((n:Int)+(xs.length:Int)).toNat else min (n:Int).toNat xs.length)).take (xs.length-(if (n:Int)<0 then ((n:Int)+(xs.length:Int)).toNat else min (n:Int).toNat xs.length))=_;rw[if_neg nofun,sn,Nat.min_eq_left h];exact take_of_length_le (by rw[jp];omega)
def zy {m:Nat}(h:n<=xs.length)(h2:m<=xs.length):gE xs (some (n:Int)) (some (m:Int))=(xs.drop n).take (m-n):=by
 unfold gE;show (xs.drop (if (n:Int)<0 then ((n:Int)+(xs.length:Int)).toNat else min (n:Int).toNat xs.length)).take ((if (m:Int)<0 then ((m:Int)+(xs.length:Int)).toNat else min (m:Int).toNat xs.length)-(if (n:Int)<0 then ((n:Int)+(xs.length:Int)).toNat else min (n:Int).toNat xs.length))=_;rw[if_neg (by omega:¬ (n:Int)<0),if_neg (by omega:¬ (m:Int)<0),sn,sn,Nat.min_eq_left h,Nat.min_eq_left h2]
structure Pt where
 p:Addr
 i:Int
 j:Int
abbrev cq (q:Pt):V:=.ref q.p
abbrev dc (q:Pt):aB:=tu q.p [.int q.i,.int q.j]
abbrev Cc (a b:Pt):Prop:=min a.j b.j<=max a.i b.i
def DE {L:List Pt}(hk:2<=k)(hn:L.length<=4)(z:Sep O H)(p:ag (pt l (.lst (L.map cq))) O Δ)(ht:∀ q ∈ L,∃ Δ,ag (dc q) O Δ) (hd:∀ (n m:Nat) (a b:Pt),n<m->L[n]? =some a->L[m]? =some b->Cc a b) (q:∀ H',Sep O H'->Q (.bl true) H'):ab tab R k Ci [.ref l] H Q E:=by
 refine wc (d:=vZ) nofun rfl rfl ?_;right;refine Cu (z.get p) ?_;refine kA (xs:=L.map cq) (λj U H=>∃ u v w,U=[some (.ref l),u,v,w]/\Sep O H) ⟨none,none,none,rfl,z⟩ ?_ ?_ ?_
 ·rintro j U H ⟨u,v,w,rfl,hs⟩;exact hs.get p
 ·rintro j x T U H hx ⟨u,v,w,rfl,hs⟩ hT;rw[io] at hx;obtain ⟨b,eb,rfl⟩:=nw.mp hx;have hs4:=hs.gZ (xs:=[.int j,cq b]) hT;left;refine ⟨T,_,rfl,.inl (aX.of hs4.atT),rfl,?_⟩;generalize upd H T _=H4 at hs4⊢;right;refine Ht hs4 (hs4.get (.t p)) (λP H5 hs5=>?_);have hj:j<L.length:=(tz.mp eb).1;rw[Ao (by rw[ce];omega)] at hs5;obtain ⟨Δb,pb⟩:=ht b (cr eb);clear hs4 hs;right;refine c8 (xs:=(L.map cq).take j) (λi U H=>∃ w,U=[some (.ref l),some (.int j),some (cq b),w]/\Sep (pt P (.lst ((L.map cq).take j))::tu T [.int j,cq b]::O) H) ⟨_,rfl,hs5⟩ ?_ ?_ ?_
  ·rintro i U H ⟨w,rfl,hs⟩;exact aR.of (hs.get .e)
  ·rintro i x U H hx ⟨w,rfl,hs⟩;rw[getElem?_take] at hx
   split at hx
   ·rename_i hij;rw[io] at hx;obtain ⟨a,ea,rfl⟩:=nw.mp hx;obtain ⟨Δa,pa⟩:=ht a (cr ea);right;refine mW nofun hs (hs.ef (.t (.t pa))) (hs.ef (.t (.t pb))) (hd i j a b hij ea eb) ?_;refine bc ?_;refine ak rfl ?_;right;exact ⟨_,rfl,hs⟩
   ·cases hx
  ·rintro U H ⟨w,rfl,hs⟩;right;exact ⟨_,_,_,rfl,hs.drop.drop⟩
 ·rintro U H ⟨u,v,w,rfl,hs⟩;right;exact q _ hs
structure Mh where
 t:Addr
 i:Int
 j:Int
 dl:Addr
 b:Addr
 rs:List Rw
 x:Bx
abbrev kq (q:Mh):V:=.ref q.t
abbrev qb (q:Mh):aB:=tu q.t [.int q.i,.int q.j,.ref q.dl,.ref q.b]
def rO {t:Addr}(ro:Ro K R)(hk:1<=k)(e:H t=some (.tup xs))(hl:xs.length=4)(q:Q (.bl true) H):ab tab R k rp [.ref t] H Q E:=by
 refine wc (d:=jK) nofun rfl rfl ?_;left;refine cw (t:="tuple") (Ka e) rfl ?_;right;refine vX e ?_;left;simp only[ro.g_THINGS_OF_A_MEMBER];right;rw[hl];exact q
def mL {L:List Mh}(ro:Ro K R)(hk:2<=k)(n0:1<=L.length)(n1:L.length<=4)(z:Sep O H)(p:ag (pt l (.lst (L.map kq))) O Δ)(ht:∀ q ∈ L,∃ Δ,ag (qb q) O Δ) (q:∀ H',Sep O H'->Q (.bl true) H'):ab tab R k mJ [.ref l] H Q E:=by
 refine wc (d:=f9) nofun rfl rfl ?_;left;refine cw (t:="list") (xC (z.get p)) rfl ?_;right;refine iQ (z.get p) ?_;rw[ce];right;refine ax (λh=>?_) (λh=>absurd nofun h);left;simp only[ro.g_MOST_MEMBERS];right;refine ax (λh=>?_) (λh=>absurd nofun h);right;refine Iq (z.get p) ?_;refine l6 (xs:=L.map kq) (by rw[ce];omega) (λD ys H=>ys=sK ys.length (.bl true)/\Sep (pt D (.lst ys)::O) H) (λD ys H hI=>aR.of (hI.2.get (.t p))) (λD hD=>⟨rfl,z.new (o:=.lst []) hD⟩) (λD ys y H hy hI=>?_) (λD ys H hl hI=>?_)
 ·obtain ⟨e,zz⟩:=hI;rw[io] at hy;obtain ⟨o,eo,rfl⟩:=nw.mp hy;obtain ⟨Δo,po⟩:=ht o (cr eo);have hlt:=(tz.mp eo).1;right;refine rO ro nofun (zz.ef (.t po)) rfl ?_;refine oE.mk zz.at nofun ⟨?_,zz.set rfl⟩;rw[ci,ge,List.replicate_succ',<-e]
 ·obtain ⟨e,zz⟩:=hI;right;refine A0 (K:=R.K) (bs:=sK ys.length true) rfl (by rw[map_replicate,<-e];exact zz.at) ?_;right;rw[show (sK ys.length true).all id=true by simp];exact q _ zz.drop
def xp {p:Addr}{j:Int}(hk:3<=k)(e:H p=some (.tup [.int i,.int j]))(h0:0<=i)(h1:i<j)(h2:j<=n)(q:Q (.bl true) H):ab tab R k xx [.ref p,.int n] H Q E:=by
 refine wc (d:=nR) nofun rfl rfl ?_;right;refine bH e rfl ?_;right;refine bH e rfl ?_;right;refine jH (t:="int") (u:="int") nofun rfl rfl ?_;refine aK (by simp[aV,h0,h2,Int.le_of_lt h1]) ?_;right;refine bH e rfl ?_;right;refine bH e rfl ?_;right;dsimp only;rw[decide_eq_true h1];exact q
abbrev ij (q:Pt):Int×Int:=(q.i,q.j)
abbrev B5 (q:Mh):Int×Int:=(q.i,q.j)
abbrev Kv (a b:Mh):Prop:=min a.j b.j<=max a.i b.i
def A8 {L':List Pt}{L:List Mh}(e:L'.map ij=L.map B5){a:Pt}(h:L'[n]? =some a):∃ b,L[n]? =some b/\a.i=b.i/\a.j=b.j:=by
 have h2:(L'.map ij)[n]? =(L.map B5)[n]? :=by rw[e]
 rw[io,io,h] at h2;obtain ⟨b,e1,e2⟩:=nw.mp h2.symm;exact ⟨b,e1,(congrArg (·.1) e2).symm,(congrArg (·.2) e2).symm⟩
def cA {L:List α}{o:α}(h:L[n]? =some o):L.take (n+1)=L.take n++[o]:=by
 rw[take_succ,h]
 rfl
def bW {f:α->aB}{x:α}{l:List α}:ag (f x) ((l++[x]).map f++O) (l.map f++O):=by
 rw[f8,le];exact aa .e
def uF {L:List Mh}(ro:Ro K R)(hk:4<=k)(n0:1<=L.length)(n1:L.length<=4)(z:Sep O H)(p:ag (pt l (.lst (L.map kq))) O Δ)(ht:∀ q ∈ L,∃ Δ,ag (qb q) O Δ) (hp:∀ q ∈ L,0<=q.i/\q.i<q.j/\q.j<=n) (hd:∀ (n m:Nat) (a b:Mh),n<m->L[n]? =some a->L[m]? =some b->Kv a b)
  (q:∀ P (L':List Pt) H',L'.map ij=L.map B5->Sep (pt P (.lst (L'.map cq))::(L'.map dc++O)) H'->Q (.ref P) H'):ab tab R k tE [.ref l,.int n] H Q E:=by
 refine wc (d:=kH) nofun rfl rfl ?_;right;refine mL ro nofun n0 n1 z p ht (λH1 z1=>?_);right;rename_i P H2 z2;refine Cu (z2.get (.t p)) ?_;refine kA (xs:=L.map kq) (λj U H=>∃ u v w,∃ L':List Pt,U=[some (.ref l),some (.int n),some (.ref P),u,v,w]/\L'.map ij=(L.take j).map B5/\Sep (pt P (.lst (L'.map cq))::(L'.map dc++O)) H) ⟨none,none,none,[],rfl,rfl,z2⟩ ?_ ?_ ?_
 ·rintro j U H ⟨u,v,w,L',rfl,e,hs⟩;exact hs.get (.t (aa p))
 ·rintro j x T U H hx ⟨u,v,w,L',rfl,e,hs⟩ hT;rw[io] at hx;obtain ⟨b,eb,rfl⟩:=nw.mp hx;have hj:=(tz.mp eb).1;obtain ⟨Δb,pb⟩:=ht b (cr eb);obtain ⟨b0,b1,b2⟩:=hp b (cr eb);have hs4:=hs.gZ (xs:=[.int j,kq b]) hT;left;refine ⟨T,_,rfl,.inl (aX.of hs4.atT),rfl,?_⟩;generalize upd H T _=H4 at hs4⊢;right;refine bH (hs4.ef (.t (.t (aa pb)))) rfl ?_;right;refine bH (hs4.ef (.t (.t (aa pb)))) rfl ?_;right;rename_i X H5 hs5;refine xp (n:=n) nofun hs5.at b0 b1 b2 ?_;refine ak rfl ?_;clear hs4 hs;right;rename_i Y H6 hs6;have hl':L'.length=j:=by
   have:=congrArg List.length e;rw[ce,ce,db] at this
   omega
  refine vJ hs6 (hs6.get (.t (.t (.t .e)))) hs6.at (by rw[ce,ge];omega) (λZ H7 hs7=>?_);have e':(L'++[(⟨X,b.i,b.j⟩:Pt)]).map ij=(L.take (j+1)).map B5:=by
   rw[cA eb,f8,f8,e]
   rfl
  have hs8:Sep (tu X [.int b.i,.int b.j]::pt P (.lst (L'.map cq))::pt Z (.lst (L'.map cq++[.ref X]))::(L'.map dc++O)) H7:=(hs7.pull (.t (.t .e))).toT.sub (by ac_nf);have hs9:Sep (pt P (.lst (L'.map cq))::pt Z (.lst ((L'++[(⟨X,b.i,b.j⟩:Pt)]).map cq))::((L'++[(⟨X,b.i,b.j⟩:Pt)]).map dc++O)) H7:=Sep.push (.t (.t bW)) (by rw[f8];exact hs8);clear hs5 hs6 hs7 hs8;right;refine DE (L:=L'++[(⟨X,b.i,b.j⟩:Pt)]) nofun (by rw[ci,ge];omega) hs9 (.t .e) (λa ha=>?_) (λn m a a2 hn h1 h2=>?_) (λH8 hs10=>?_)
  ·obtain ⟨Δ,hp⟩:=bh (f:=dc) ha;exact ⟨_,.t (.t (hp O))⟩
  ·obtain ⟨c,c1,c2,c3⟩:=A8 e' h1;obtain ⟨d,d1,d2,d3⟩:=A8 e' h2;have g1:L[n]? =some c:=by
    rw[getElem?_take] at c1
    split at c1
    ·exact c1
    ·cases c1
   have g2:L[m]? =some d:=by
    rw[getElem?_take] at d1
    split at d1
    ·exact d1
    ·cases d1
   have:=hd n m c d hn g1 g2;unfold Kv at this;unfold Cc
   omega
  ·refine ak rfl ?_;right;refine ⟨P,_,rfl,hs10.at,?_⟩;right;refine ⟨_,hs10.at,qL hs10 .e (by rw[ce];omega) (λH9 hs11=>?_)⟩;right;refine ⟨_,_,_,L'++[⟨X,b.i,b.j⟩],rfl,e',?_⟩;have hs12:=(hs11.pull (.t .e)).drop;rw[f8];exact hs12
 ·rintro U H ⟨u,v,w,L',rfl,e,hs⟩;right;rw[ce,take_length] at e;exact q P L' _ e hs
abbrev qi (R:Rt)(q:Mh):aB:=bx λL:List (Addr×Rw)=>pt q.dl (.lst (L.map dD))::aJ R q.b q.x::pu (L.map (·.2)=q.rs)::L.reverse.map (sF R)
def LZ {q:Mh}(z:Sep (qi R q::O) H):∃ L:List (Addr×Rw),L.map (·.2)=q.rs/\Sep (pt q.dl (.lst (L.map dD))::aJ R q.b q.x::(L.reverse.map (sF R)++O)) H:=by
 obtain ⟨L,z1⟩:=iq z;have z2:=z1.pull (.t (.t .e));exact ⟨L,z2.pure,z2.drop⟩
def K8 {q:Mh}{L:List (Addr×Rw)}(e:L.map (·.2)=q.rs)(z:Sep (pt q.dl (.lst (L.map dD))::aJ R q.b q.x::(L.reverse.map (sF R)++O)) H):Sep (qi R q::O) H:=fQ L (Sep.push (.t (.t .e)) (Sep.tF e z))
structure Mm where
 m:Addr
 at_:Int
 rs:List Rw
 x:Bx
 cs:List Int
 ws:List Str
abbrev bF (q:Mm):V:=.ref q.m
abbrev a8 (R:Rt)(q:Mm):aB:=bx λe:Addr×Addr×Addr×List (Addr×Rw)=>k8 R q.m e.1 e.2.1 e.2.2.1 q.at_ (e.2.2.2.map dD)::aS R e.2.1 q.cs q.ws::aJ R e.2.2.1 q.x::pu (e.2.2.2.map (·.2)=q.rs)::e.2.2.2.reverse.map (sF R)
variable {q:Mm}
def wj (z:Sep (a8 R q::O) H):∃ (l s b:Addr) (L:List (Addr×Rw)),L.map (·.2)=q.rs/\Sep (k8 R q.m l s b q.at_ (L.map dD)::aS R s q.cs q.ws::aJ R b q.x::(L.reverse.map (sF R)++O)) H:=by
 obtain ⟨⟨l,s,b,L⟩,z1⟩:=iq z;have z2:=z1.pull (.t (.t (.t .e)));exact ⟨l,s,b,L,z2.pure,z2.drop⟩
def xR {s b:Addr}{L:List (Addr×Rw)}(e:L.map (·.2)=q.rs)(z:Sep (k8 R q.m l s b q.at_ (L.map dD)::aS R s q.cs q.ws::aJ R b q.x::(L.reverse.map (sF R)++O)) H):Sep (a8 R q::O) H:=fQ (l,s,b,L) (Sep.push (.t (.t (.t .e))) (Sep.tF e z))
def pK {p:Addr}{cs:List Int}{q:Mh}{i j:Nat}{Δ1 Δ2:List aB}(ro:Ro K R)(hk:7<=k)(n0:1<=q.rs.length)(n1:q.rs.length<=24)(hij:i<j)(hj:j<=cs.length)(c60:cs.length<=60)(hc:cZ cs)(z:Sep (qi R q::pt C (.lst (cs.map V.int))::O) H)(p1:ag (tu p [.int i,.int j]) O Δ1)(p2:ag (qb q) O Δ2)
  (h:∀ m H',Sep (a8 R ⟨m,0,q.rs,q.x,(cs.drop i).take (j-i),sK (j-i) "open"⟩::pt C (.lst (cs.map V.int))::O) H'->Q (.ref m) H'):ab tab R k iP [.ref C,.ref p,.ref q.t] H Q E:=by
 refine wc (d:=iB) nofun rfl rfl ?_;obtain ⟨L,eL,z1⟩:=LZ z;clear z;right;refine bH (z1.ef (.t (.t (aa (.t p2))))) rfl ?_;right;refine bH (z1.ef (.t (.t (aa (.t p1))))) rfl ?_;right;refine bH (z1.ef (.t (.t (aa (.t p1))))) rfl ?_;right;refine Ht z1 (z1.get (.t (.t (aa .e)))) (λS H2 z2=>?_);rw[zy (by rw[ce];omega) (by rw[ce];omega),<-map_drop,<-map_take] at z2;have el:((cs.drop i).take (j-i)).length=j-i:=by rw[db,jp];omega
 right;intro a dx g1 g2 g3;refine nY ro nofun nofun nofun (λy hy=>hc y (List.mem_of_mem_drop (List.mem_of_mem_take hy))) (hR z2 g1 g2 g3) .e (λH3 z3=>⟨rfl,?_⟩);rw[el] at z3;right;refine bH (z3.ef (.t (.t (.t (.t (aa (.t p2))))))) rfl ?_;right;intro m dx3 g1 g2 g3;have hrow:=ki (R:=R) (O:=pt C (.lst (cs.map V.int))::O) eL;have hlen:=hrow.1;refine xj (l:=q.dl) (s:=a) (b:=q.b) (x:=q.x) (at_:=0) (ds:=L.map dD) ro nofun nofun nofun nofun nofun (.t (.t .e)) .e (.t (.t (.t .e))) (gd.all hrow.more.more.more.more) (hR z3 g1 g2 g3) (λl2 s2 b2 H7 z7=>⟨rfl,?_⟩);refine h m H7 (xR (l:=l2) (s:=s2) (b:=b2) eL ?_);exact z7.sub (by ac_nf)
@[irreducible] noncomputable def pF (I:Addr->List V->Hp->Prop) (D:Addr) (ys:List V) (rest:St) (x y:Option V):VK:=λv H3=>∃ zs,H3 D=some (.lst zs)/\zs.length<bn/\∃ ys2 x2 x3,x::y::rest=x2::x3::rest/\ys2.length=ys.length+1/\I D ys2 (upd H3 D (.lst (zs++[v])))
def pF.mk {I:Addr->List V->Hp->Prop}{D:Addr}{x y:Option V}{H3:Hp}(h1:H3 D=some (.lst ys))(hl:ys.length<=999)(h2:I D (ys++[v]) (upd H3 D (.lst (ys++[v])))):pF I D ys rest x y v H3:=
 by unfold pF;exact ⟨ys,h1,dh nofun,ys++[v],x,y,rfl,by simp,h2⟩
def Ac {b:Addr}{tp1 tp2:Bool}(hn:xs.length=ys.length)(I:Addr->List V->Hp->Prop)(hl:∀ D zs H,I D zs H->Sq R.K tp1 H a xs/\Sq R.K tp2 H b ys) (h0:∀ D,H D=none->I D [] (upd H D (.lst [])))
  (hs:∀ D zs x y T H',xs[zs.length]? =some x->ys[zs.length]? =some y->I D zs H'->H' T=none->te (some x::some y::rest) (upd H' T (.tup [x,y])) (pF I D zs rest (some x) (some y)))
  (hd:∀ D zs H',zs.length=xs.length->I D zs H'->Q (.ref D) H'):LCt R.K 2 te (Ia R.K tp1 a tp2 b) (none::none::rest) H Q:=by
 unfold LCt;intro D hD;refine ⟨λi m σ' H'=>m=xs.length-i/\i<=xs.length/\∃ ys x0 x1,σ'=x0::x1::rest/\ys.length=i/\I D ys H',⟨xs.length,by simp,Nat.zero_le _,[],none,none,rfl,rfl,h0 D hD⟩,λi m σ' H' ⟨e,hi,zs,x0,x1,e1,e2,h⟩=>?_⟩;subst e1 e2;obtain ⟨g1,g2⟩:=hl D zs H' h
 by_cases hlt:zs.length<xs.length
 ·refine .inr ⟨⟨xs,ys,xs[zs.length],ys[zs.length]'(hn▸hlt),g1,g2,li hlt,li (hn▸hlt)⟩,λσ2 H2=>∃ ys2 x2 x3,σ2=x2::x3::rest/\ys2.length=zs.length+1/\I D ys2 H2,λσ2 H2 ⟨ys2,x2,x3,f1,f2,f3⟩=>⟨xs.length-(zs.length+1),by omega,rfl,hlt,ys2,x2,x3,f1,f2,f3⟩,λx H'' y=>?_⟩;obtain ⟨T,v,v',hT,rfl,rfl,hy,hy'⟩:=y;have z:=hs D zs v v' T H' (hy xs g1) (hy' ys g2) h hT;refine ⟨T,[v,v'],rfl,aX.of aA,rfl,rfl,?_⟩;unfold pF at z;exact ⟨λ_=>z,λe=>nomatch e⟩
 ·have:zs.length=xs.length:=by omega
  exact .inl ⟨⟨xs,ys,g1,g2,.inl (Nat.le_of_eq this.symm)⟩,hd D zs H' this h⟩
abbrev DW (q:Mm):Mm:={ q with m:=0 }
abbrev vU (cs:List Int)(q:Mh):Mm:=⟨0,0,q.rs,q.x,(cs.drop q.i.toNat).take (q.j.toNat-q.i.toNat),sK (q.j.toNat-q.i.toNat) "open"⟩
def CW {L:List α}{o:α}(h:L[n]? =some o):L.drop n=o::L.drop (n+1):=by
 obtain ⟨hl,e⟩:=tz.mp h;rw[List.drop_eq_getElem_cons hl,e]
abbrev Lp (n:Nat)(q:Mh):Prop:=(0<=q.i/\q.i<q.j/\q.j<=n)/\1<=q.rs.length/\q.rs.length<=24
def Sep.cut {A B:List aB}(z:Sep (A++(B++O)) H):Sep (A++O) H:=by
 induction B with
 |nil=>exact z
 |cons X B ih=>exact ih (z.pull (aa .e)).drop
section
variable {C l pl:Addr}{cs:List Int}{L:List Mh}{P:List Pt}
def pN (ro:Ro K R)(hk:7<=k)(n1:L.length<=4)(ok:∀ q ∈ L,Lp cs.length q) (c60:cs.length<=60) (hc:cZ cs) (eP:P.map ij=L.map B5)
  (hte:∀ {v w:V}{H:Hp}{Q:VK},ab tab R k iP [.ref C,v,w] H Q (λ_ _=>False)->te [some v,some w,some (.ref C)] H Q) (hP:∀ a ∈ P,∃ Δ,ag (dc a) O Δ)
  (z:Sep (pt C (.lst (cs.map V.int))::pt l (.lst (L.map kq))::pt pl (.lst (P.map cq))::(L.map (qi R)++(L.map qb++O))) H)
  (q:∀ D (M:List Mm) H',M.map DW=L.map (vU cs)->Sep (pt D (.lst (M.map bF))::pt pl (.lst (P.map cq))::(M.map (a8 R)++O)) H'->Q (.ref D) H'):LCt R.K 2 te (Ia R.K false pl false l) (none::none::[some (.ref C)]) H Q:=by
 have hlP:P.length=L.length:=by
  have:=congrArg List.length eP
  rwa [ce,ce] at this
 refine Ac (xs:=P.map cq) (ys:=L.map kq) (by rw[ce,ce];exact hlP) (λD ys H=>∃ M:List Mm,ys=M.map bF/\M.map DW=(L.take M.length).map (vU cs)/\Sep (pt D (.lst ys)::pt C (.lst (cs.map V.int))::pt l (.lst (L.map kq))::pt pl (.lst (P.map cq))::(M.map (a8 R)++((L.drop M.length).map (qi R)++(L.map qb++O)))) H) (λD ys H ⟨M,_,_,zz⟩=>⟨aR.of (zz.get (.t (.t (.t .e)))),aR.of (zz.get (.t (.t .e)))⟩) (λD hD=>⟨[],rfl,rfl,z.new (o:=.lst []) hD⟩) (λD ys x y T H hx hy hI hT=>?_) (λD ys H hl hI=>?_)
 ·obtain ⟨M,rfl,e2,zz⟩:=hI;rw[ce,io] at hx hy;obtain ⟨pp,ep,rfl⟩:=nw.mp hx;obtain ⟨o,eo,rfl⟩:=nw.mp hy;obtain ⟨⟨o0,o1,o2⟩,r0,r1⟩:=ok o (cr eo);have hn:=(tz.mp eo).1;obtain ⟨o',eo',ei,ej⟩:=A8 eP ep;rw[eo] at eo';cases eo';have z2:=(zz.gZ (xs:=[cq pp,kq o]) hT).drop;generalize upd H T _=H2 at z2;rw[CW eo] at z2;have z3:=(z2.pull (.t .e)).pull (.t (.t (.t (.t (aa .e)))));obtain ⟨Δ1,p1⟩:=hP pp (cr ep);obtain ⟨Δ2,p2⟩:=bh (f:=qb) (cr eo);have p1':ag (tu pp.p [.int ((o.i.toNat:Nat):Int),.int ((o.j.toNat:Nat):Int)]) O Δ1:=by
   have e:dc pp=tu pp.p [.int ((o.i.toNat:Nat):Int),.int ((o.j.toNat:Nat):Int)]:=by
    show tu pp.p [.int pp.i,.int pp.j]=_;rw[ei,ej,Int.toNat_of_nonneg o0,Int.toNat_of_nonneg nofun]
   rw[<-e];exact p1
  refine hte (pK (i:=o.i.toNat) (j:=o.j.toNat) (q:=o) ro hk r0 r1 nofun nofun c60 hc z3 (p:=pp.p) (.t (.t (.t (aa (aa (aa p1')))))) (.t (.t (.t (aa (aa (p2 _)))))) (λm H3 z4=>?_));have z5:=(z4.pull (.t (.t .e))).set (o':=.lst (M.map bF++[.ref m])) rfl;refine pF.mk (z4.get (.t (.t .e))) (by rw[ce];omega) ⟨M++[⟨m,0,o.rs,o.x,(cs.drop o.i.toNat).take (o.j.toNat-o.i.toNat),sK (o.j.toNat-o.i.toNat) "open"⟩],by rw[f8];rfl,?_,?_⟩
  ·rw[ci,ge,cA eo,f8,f8,e2]
   rfl
  ·rw[ci,ge];exact Sep.push (.t (.t (.t (.t bW)))) (z5.pull (.t .e))
 ·obtain ⟨M,rfl,e2,zz⟩:=hI;rw[ce,ce,hlP] at hl;rw[hl,take_length] at e2;refine q D M H e2 ?_;rw[hl,List.drop_length] at zz;have z2:=(zz.pull (.t .e)).drop;have z3:=(z2.pull (.t .e)).drop;exact Sep.cut (A:=pt D _::pt pl _::M.map (a8 R)) (B:=L.map qb) z3
end
abbrev bJ (R:Rt)(c:Addr)(cs:List Int)(ws:List Str)(P:List (Int×Int))(ms:List V):aB:=bx λe:Addr×Addr×Addr×Addr×List Pt=>pt c (.ins (R.cad bQ) e.1 [("ground",.ref e.2.1),("parts",.ref e.2.2.1),("machines",.ref e.2.2.2.1)])::pt e.1 (.own c)::pt e.2.2.1 (.lst (e.2.2.2.2.map cq))::pt e.2.2.2.1 (.lst ms)::aS R e.2.1 cs ws::pu (e.2.2.2.2.map ij=P)::e.2.2.2.2.map dc
section
variable {c:Addr}{cs:List Int}{ws:List Str}{P:List (Int×Int)}{ms:List V}
def CO (z:Sep (bJ R c cs ws P ms::O) H):∃ (dx gr pl ml:Addr) (L:List Pt),L.map ij=P/\Sep (pt c (.ins (R.cad bQ) dx [("ground",.ref gr),("parts",.ref pl),("machines",.ref ml)])::pt dx (.own c)::pt pl (.lst (L.map cq))::pt ml (.lst ms)::aS R gr cs ws::(L.map dc++O)) H:=by
 obtain ⟨⟨dx,gr,pl,ml,L⟩,z1⟩:=iq z;have z2:=z1.pull (.t (.t (.t (.t (.t .e)))));exact ⟨dx,gr,pl,ml,L,z2.pure,z2.drop⟩
def GN {gr pl ml:Addr}{L:List Pt}(e:L.map ij=P)(z:Sep (pt c (.ins (R.cad bQ) dx [("ground",.ref gr),("parts",.ref pl),("machines",.ref ml)])::pt dx (.own c)::pt pl (.lst (L.map cq))::pt ml (.lst ms)::aS R gr cs ws::(L.map dc++O)) H):Sep (bJ R c cs ws P ms::O) H:=fQ (dx,gr,pl,ml,L) (Sep.push (.t (.t (.t (.t (.t .e))))) (Sep.tF e z))
def dP:Ob R (bJ R c cs ws P ms) c bQ ["ground","parts","machines"]:=by
 rintro H D ⟨⟨dx,gr,pl,ml,L⟩,D1,D2,_,_,_,⟨_,h⟩,_⟩;exact ⟨dx,_,h,rfl⟩
def DK (hk:1<=k)(z:Sep O H)(p:ag (aS R a cs ws) O Δ)(q:Q (.int cs.length) H):ab tab R k gO [.ref a] H Q E:=by
 obtain ⟨hok,z2⟩:=gR (z.pull p);refine tR hk z2 ?_;rw[ce];exact q
def rS {L:List Mh}(ro:Ro K R)(hk:9<=k)(n0:1<=L.length)(n1:L.length<=4)(ok:∀ q ∈ L,Lp cs.length q) (hd:∀ (n m:Nat) (a b:Mh),n<m->L[n]? =some a->L[m]? =some b->Kv a b) (c0:1<=cs.length) (c60:cs.length<=60) (hc:cZ cs)
  (z:Sep (pt c (.ins (R.cad bQ) dx [])::pt dx (.own c)::pt C (.lst (cs.map V.int))::pt l (.lst (L.map kq))::(L.map (qi R)++(L.map qb++O))) H)
  (q:∀ (M:List Mm) H',M.map DW=L.map (vU cs)->Sep (bJ R c cs (sK cs.length "open") (L.map B5) (M.map bF)::(M.map (a8 R)++O)) H'->Q .non H'):ab tab R k j5 [.ref c,.ref C,.ref l] H Q E:=by
 refine wc (d:=d7) nofun rfl rfl ?_;right;intro a dx2 g1 g2 g3;refine nY (a:=C) ro nofun c0 c60 hc (hR z g1 g2 g3) (.t (.t .e)) (λH2 z2=>⟨rfl,?_⟩);right;rename_i H3 z3;refine ae bp z3 (by symm) rfl rfl ?_;left;refine DK nofun z3 (by symm) ?_;right;have z4:Sep (pt l (.lst (L.map kq))::aS R a cs (sK cs.length "open")::pt c (.ins (R.cad bQ) dx [("ground",.ref a)])::pt dx (.own c)::pt C (.lst (cs.map V.int))::(L.map (qi R)++(L.map qb++O))) H3:=z3.sub (by ac_nf);refine uF (n:=cs.length) (L:=L) ro nofun n0 n1 z4 .e (λa ha=>?_) (λq hq=>(ok q hq).1) hd (λpl P H5 eP z5=>?_)
 ·obtain ⟨Δ,hp⟩:=bh (f:=qb) ha;exact ⟨_,.t (.t (.t (.t (.t (aa (hp O))))))⟩
 have z6:Sep (pt pl (.lst (P.map cq))::pt l (.lst (L.map kq))::aS R a cs (sK cs.length "open")::pt c (.ins (R.cad bQ) dx [("ground",.ref a)])::pt dx (.own c)::pt C (.lst (cs.map V.int))::(P.map dc++(L.map (qi R)++(L.map qb++O)))) H5:=Sep.mv (P:=[_]) (Δ:=P.map dc) (L:=[_,_,_,_,_]) z5;clear z z2 z3 z4 z5;right;rename_i H6 z7;have z8:Sep (pt C (.lst (cs.map V.int))::pt l (.lst (L.map kq))::pt pl (.lst (P.map cq))::aS R a cs (sK cs.length "open")::pt c (.ins (R.cad bQ) dx [("ground",.ref a),("parts",.ref pl)])::pt dx (.own c)::(P.map dc++(L.map (qi R)++(L.map qb++O)))) H6:=z7.sub (by ac_nf);have z9:Sep (pt C (.lst (cs.map V.int))::pt l (.lst (L.map kq))::pt pl (.lst (P.map cq))::(L.map (qi R)++(L.map qb++(aS R a cs (sK cs.length "open")::pt c (.ins (R.cad bQ) dx [("ground",.ref a),("parts",.ref pl)])::pt dx (.own c)::(P.map dc++O))))) H6:=by
  have:=Sep.mv (P:=[_,_,_]) (Δ:=aS R a cs (sK cs.length "open")::pt c (.ins (R.cad bQ) dx [("ground",.ref a),("parts",.ref pl)])::pt dx (.own c)::P.map dc) (L:=L.map (qi R)++L.map qb) (O:=O) (H:=H6) (by rw[le];exact z8);rw[le] at this;exact this
 clear z6 z7 z8;refine D5 (tp1:=false) (tp2:=false) (aR.of (z9.get (.t (.t .e)))) (aR.of (z9.get (.t .e))) ?_;refine pN (C:=C) (k:=k-1) ro nofun n1 ok c60 hc eP (λ{v w H Q} h=>?_) (λa ha=>?_) z9 (λml M H7 eM z10=>?_)
 ·right;exact h
 ·obtain ⟨Δ,hp⟩:=bh (f:=dc) ha;exact ⟨_,.t (.t (.t (hp O)))⟩
 have z11:Sep (pt ml (.lst (M.map bF))::pt pl (.lst (P.map cq))::aS R a cs (sK cs.length "open")::pt c (.ins (R.cad bQ) dx [("ground",.ref a),("parts",.ref pl)])::pt dx (.own c)::(P.map dc++(M.map (a8 R)++O))) H7:=Sep.mv (P:=[_,_]) (Δ:=M.map (a8 R)) (L:=aS R a cs (sK cs.length "open")::pt c (.ins (R.cad bQ) dx [("ground",.ref a),("parts",.ref pl)])::pt dx (.own c)::P.map dc) z10;clear z9 z10;right;rename_i H8 z12;refine q M H8 eM (GN (dx:=dx) (gr:=a) (pl:=pl) (ml:=ml) eP ?_);exact z12.sub (by ac_nf)
end
section
variable {c m:Addr}{cs:List Int}{ws:List Str}{P:List (Int×Int)}{ms:List V}{i:Nat}
def fg (hk:2<=k)(hi:i<ms.length)(z:Sep O H)(p:ag (bJ R c cs ws P ms) O Δ)(h:Q .non H):ab tab R k fN [.ref c,.int i] H Q E:=by
 refine wc (d:=cu) nofun rfl rfl ?_;obtain ⟨dx,gr,pl,ml,L,eL,z1⟩:=CO (z.pull p);right;refine aI (t:="int") nofun rfl ?_;right;refine ax (λh1=>?_) (λh=>absurd nofun h);right;exact h
def dE (hk:3<=k)(hi:ms[i]? =some (.ref m))(z:Sep O H)(p:ag (bJ R c cs ws P ms) O Δ)(h:Q (.ref m) H):ab tab R k iL [.ref c,.int i] H Q E:=by
 refine wc (d:=c7) nofun rfl rfl ?_;obtain ⟨dx,gr,pl,ml,L,eL,z1⟩:=CO (z.pull p);right;refine ae dP z p rfl rfl ?_;left;refine fg nofun (tz.mp hi).1 z p ?_;right;refine aD (z1.get (by symm)) (aw nofun (by rw[sn];exact hi)) ?_;right;exact h
end
abbrev sC (q:Mm):Prop:=0<=q.at_/\q.at_<=q.rs.length/\∀ r ∈ q.rs,Rw.ok r
abbrev JC (n:Nat)(q:Mm):Mm:=⟨q.m,(rN q.rs q.ws n q.at_ q.x q.cs).at_,q.rs,(rN q.rs q.ws n q.at_ q.x q.cs).x,(rN q.rs q.ws n q.at_ q.x q.cs).cs,q.ws⟩
abbrev Br (q:Mm):Mm:=⟨q.m,(mS q.rs q.at_ q.x q.cs q.ws).at_,q.rs,(mS q.rs q.at_ q.x q.cs q.ws).x,(mS q.rs q.at_ q.x q.cs q.ws).cs,q.ws⟩
section
variable {c:Addr}{cs:List Int}{ws:List Str}{P:List (Int×Int)}{ms:List V}{i:Nat}{q:Mm}
def iu:Ob R (a8 R q) q.m ba ["deeds","store","boxes","at"]:=by
 rintro H D ⟨⟨l,s,b,L⟩,D1,D2,_,_,_,⟨dx,D3,D4,_,_,_,⟨_,h⟩,_⟩,_⟩;exact ⟨dx,_,h,rfl⟩
def Fx (ro:Ro K R)(hk:13<=k)(hi:ms[i]? =some (.ref q.m))(ok:sC q)(z:Sep (a8 R q::bJ R c cs ws P ms::O) H)
  (h:∀ t H',Sep (pt t (.tup [.str (rW q.rs n (rN q.rs q.ws n q.at_ q.x q.cs)),.int ((rN q.rs q.ws n q.at_ q.x q.cs).n:Int)])::a8 R (JC n q)::bJ R c cs ws P ms::O) H'->Q (.ref t) H'):ab tab R k sP [.ref c,.int i,.int (n:Int)] H Q E:=by
 refine wc (d:=kL) nofun rfl rfl ?_;right;refine ae dP z (.t .e) rfl rfl ?_;left;refine dE nofun hi z (.t .e) ?_;refine ae iu z .e rfl rfl ?_;obtain ⟨l,s,b,L,eL,z1⟩:=wj z;left;refine Fw ro nofun ok.1 ok.2.1 ok.2.2 (ki eL) z1 (λt H2 z2=>h t H2 ?_);exact (xR (q:=JC n q) (l:=l) (s:=s) (b:=b) (L:=L) eL (O:=pt t _::bJ R c cs ws P ms::O) (Sep.push (.t (.t (.t (aa .e)))) z2)).pull (.t .e)
def vw (ro:Ro K R)(hk:12<=k)(hi:ms[i]? =some (.ref q.m))(ok:sC q)(z:Sep (a8 R q::bJ R c cs ws P ms::O) H)
  (h:∀ H',Sep (a8 R (Br q)::bJ R c cs ws P ms::O) H'->Q (.str (mS q.rs q.at_ q.x q.cs q.ws).w) H'):ab tab R k rG [.ref c,.int i] H Q E:=by
 refine wc (d:=ju) nofun rfl rfl ?_;right;refine ae dP z (.t .e) rfl rfl ?_;left;refine dE nofun hi z (.t .e) ?_;refine ae iu z .e rfl rfl ?_;obtain ⟨l,s,b,L,eL,z1⟩:=wj z;left;have e:=(ki (R:=R) (O:=bJ R c cs ws P ms::O) eL).1;refine uK ro nofun ok.1 (by rw[e];exact ok.2.1) (ki eL) z1 (λH2 z2=>h H2 ?_);exact xR (q:=Br q) eL z2
def Bk (ro:Ro K R)(hk:4<=k)(hi:ms[i]? =some (.ref q.m))(z:Sep (a8 R q::bJ R c cs ws P ms::O) H)
  (h:∀ t t1 l1 H',Sep (pt t (.tup [.int q.at_,.ref t1,.ref l1])::pt l1 (.lst (q.cs.map V.int))::tu t1 (q.x.ls.map V.int)::a8 R q::bJ R c cs ws P ms::O) H'->Q (.ref t) H'):ab tab R k pR [.ref c,.int i] H Q E:=by
 refine wc (d:=g9) nofun rfl rfl ?_;right;refine ae dP z (.t .e) rfl rfl ?_;left;refine dE nofun hi z (.t .e) ?_;refine ae iu z .e rfl rfl ?_;obtain ⟨l,s,b,L,eL,z1⟩:=wj z;left;refine qr ro nofun z1 (λt t1 l1 H2 z2=>h t t1 l1 H2 ?_);have z2':Sep (k8 R q.m l s b q.at_ (L.map dD)::aS R s q.cs q.ws::aJ R b q.x::pt t (.tup [.int q.at_,.ref t1,.ref l1])::pt l1 (.lst (q.cs.map V.int))::tu t1 (q.x.ls.map V.int)::(L.reverse.map (sF R)++(bJ R c cs ws P ms::O))) H2:=z2.sub (by ac_nf);have z3:Sep (a8 R q::pt t (.tup [.int q.at_,.ref t1,.ref l1])::pt l1 (.lst (q.cs.map V.int))::tu t1 (q.x.ls.map V.int)::bJ R c cs ws P ms::O) H2:=xR (l:=l) (s:=s) (b:=b) (L:=L) eL (Sep.mv (P:=[_,_,_]) (Δ:=[_,_,_]) (L:=L.reverse.map (sF R)) z2');exact z3.sub (by ac_nf)
end
def AY (ro:Ro K R)(hk:2<=k)(z:Sep O H)(p:ag (a8 R q) O Δ)
  (h:∀ t t1 l1 H',Sep (pt t (.tup [.int q.at_,.ref t1,.ref l1])::pt l1 (.lst (q.cs.map V.int))::tu t1 (q.x.ls.map V.int)::O) H'->Q (.ref t) H'):ab tab R k dW [.ref q.m] H Q E:=by
 obtain ⟨l,s,b,L,eL,z1⟩:=wj (z.pull p);refine qr ro hk z1 (λt t1 l1 H2 z2=>h t t1 l1 H2 ?_);have z2':Sep (k8 R q.m l s b q.at_ (L.map dD)::aS R s q.cs q.ws::aJ R b q.x::pt t (.tup [.int q.at_,.ref t1,.ref l1])::pt l1 (.lst (q.cs.map V.int))::tu t1 (q.x.ls.map V.int)::(L.reverse.map (sF R)++Δ)) H2:=z2.sub (by ac_nf);have z3:Sep (a8 R q::pt t (.tup [.int q.at_,.ref t1,.ref l1])::pt l1 (.lst (q.cs.map V.int))::tu t1 (q.x.ls.map V.int)::Δ) H2:=xR (l:=l) (s:=s) (b:=b) (L:=L) eL (Sep.mv (P:=[_,_,_]) (Δ:=[_,_,_]) (L:=L.reverse.map (sF R)) z2');exact Sep.push (.t (.t (.t p))) z3
abbrev ky (cs:List Int)(P:List (Int×Int))(M:List Mm):Nat->List Int
 |0=>cs
 |n+1=>match P[n]?,M[n]? with
  |some p,some q=>(ky cs P M n).take p.1.toNat++q.cs++(ky cs P M n).drop p.2.toNat
  |_,_=>ky cs P M n
abbrev Ds (n:Nat)(P:List (Int×Int))(M:List Mm):Prop:=P.length=M.length/\∀ (i:Nat) (p:Int×Int) (q:Mm),P[i]? =some p->M[i]? =some q->0<=p.1/\p.2<=n/\p.1+q.cs.length=p.2
def kj {cs:List Int}{P:List (Int×Int)}{M:List Mm}(f:Ds cs.length P M):∀ n,(ky cs P M n).length=cs.length
 |0=>rfl
 |n+1=>by
  have ih:=kj f n;unfold ky
  split
  ·rename_i p q e1 e2;obtain ⟨a,b,c⟩:=f.2 n p q e1 e2;rw[ci,ci,db,jp,ih]
   omega
  ·exact ih
variable {M:List Mm}
def Aj {c:Addr}{cs:List Int}{P:List (Int×Int)}(ro:Ro K R)(hk:4<=k)(c60:cs.length<=60)(n1:M.length<=4)(f:Ds cs.length P M)(z:Sep (bJ R c cs ws P (M.map bF)::(M.map (a8 R)++O)) H)
  (h:∀ A H',Sep (pt A (.lst ((ky cs P M M.length).map V.int))::bJ R c cs ws P (M.map bF)::(M.map (a8 R)++O)) H'->Q (.ref A) H'):ab tab R k oZ [.ref c] H Q E:=by
 refine wc (d:=iz) nofun rfl rfl ?_;obtain ⟨dx,gr,pl,ml,L,eL,z1⟩:=CO z;have hlL:L.length=M.length:=by
  have:=congrArg List.length eL;rw[ce] at this;rw[this];exact f.1
 clear z;right;refine ae bp z1 (by symm) rfl rfl ?_;left;refine uO nofun z1 (by symm) (λA H2 z2=>?_);clear z1;right;refine D5 (tp1:=false) (tp2:=false) (aR.of (z2.get (by symm))) (aR.of (z2.get (by symm))) ?_;refine pe (xs:=L.map cq) (ys:=M.map bF) (λj U H=>∃ A u v,U=[some (.ref c),some (.ref A),u,v]/\Sep (pt A (.lst ((ky cs P M j).map V.int))::pt c (.ins (R.cad bQ) dx [("ground",.ref gr),("parts",.ref pl),("machines",.ref ml)])::pt dx (.own c)::pt pl (.lst (L.map cq))::pt ml (.lst (M.map bF))::aS R gr cs ws::(L.map dc++(M.map (a8 R)++O))) H) (by rw[ce,ce,hlL]) ⟨A,none,none,rfl,z2⟩ ?_ ?_ ?_
 ·rintro j U H ⟨A,u,v,rfl,zz⟩;exact ⟨aR.of (zz.get (by symm)),aR.of (zz.get (by symm))⟩
 ·rintro j x y T U H hx hy ⟨A,u,v,rfl,zz⟩ hT;rw[io] at hx hy;obtain ⟨pp,ep,rfl⟩:=nw.mp hx;obtain ⟨q,eq,rfl⟩:=nw.mp hy;have eP:P[j]? =some (ij pp):=by rw[<-eL,io,ep];rfl
  obtain ⟨f0,f1,f2⟩:=f.2 j _ q eP eq;have fl:=kj f j;have e3:ky cs P M (j+1)=(ky cs P M j).take pp.i.toNat++q.cs++(ky cs P M j).drop pp.j.toNat:=by
   show (match P[j]?,M[j]? with
    |some p,some q=>(ky cs P M j).take p.1.toNat++q.cs++(ky cs P M j).drop p.2.toNat
    |_,_=>ky cs P M j)=_
   rw[eP,eq]
   rfl
  have hs4:=zz.gZ (xs:=[cq pp,bF q]) hT;obtain ⟨Δ1,p1⟩:=bh (f:=dc) (cr ep);obtain ⟨Δ2,p2⟩:=bh (f:=a8 R) (cr eq);left;refine ⟨T,_,rfl,.inl (aX.of hs4.atT),rfl,?_⟩;generalize upd H T _=H4 at hs4⊢;have z5:=hs4.drop;clear hs4 zz;right;refine bH (z5.ef (.t (.t (.t (.t (.t (.t (p1 _))))))) ) rfl ?_;right;rename_i B H6 z6;have g1:pp.i=((pp.i.toNat:Nat):Int):=(Int.toNat_of_nonneg f0).symm;have g2:pp.j=((pp.j.toNat:Nat):Int):=(Int.toNat_of_nonneg (by have:(ij pp).1+(q.cs.length:Int)=(ij pp).2:=f2;have:(ij pp).2=pp.j:=rfl;omega)).symm;have g3:pp.j.toNat<=cs.length:=by have:pp.j<=(cs.length:Int):=f1;omega
  have g4:pp.i.toNat+q.cs.length=pp.j.toNat:=by have:pp.i+(q.cs.length:Int)=pp.j:=f2;omega
  rw[g1,Ao (by rw[ce];omega),<-map_take] at z6;refine ae iu z6 (.t (.t (.t (.t (.t (.t (.t (aa (p2 _)))))))) ) rfl rfl ?_;left;refine AY ro nofun z6 (.t (.t (.t (.t (.t (.t (.t (aa (p2 _)))))))) ) (λt t1 l1 H7 z7=>?_);clear z5;refine bH z7.at rfl ?_;right;refine vJ z7 (z7.get (.t (.t (.t .e)))) (z7.get (.t .e)) (by rw[ce,ce,db];omega) (λC1 H8 z8=>?_);right;refine bH (z8.ef (.t (.t (.t (.t (.t (.t (.t (.t (.t (.t (.t (p1 _)))))))))))) ) rfl ?_;right;rename_i D2 H9 z9;rw[g2,Be (by rw[ce];omega),<-map_drop] at z9;refine vJ z9 (z9.get (.t .e)) z9.at (by simp only[ci,ce,db,jp];omega) (λA2 H10 z10=>?_);right;refine ⟨A2,_,_,rfl,?_⟩;rw[e3,f8,f8];exact z10.sub (by ac_nf)
 ·rintro U H ⟨A,u,v,rfl,zz⟩;right;rw[ce,hlL] at zz;refine h A _ ?_;exact (GN (dx:=dx) (gr:=gr) (pl:=pl) (ml:=ml) eL (O:=pt A _::(M.map (a8 R)++O)) (Sep.push (.t (.t (.t (.t (.t (aa .e)))))) zz)).pull (.t .e)
def EA:(3:Int)*10 ^ Int.toNat 8=300000000:=by decide
def MY {a b c d e:V}(ha:P a)(hb:P b)(hc:P c)(hd:P d)(he:P e):∀ v ∈ [a,b,c,d,e],P v:=λv hv=>by
 simp only[nb,not_mem_nil,or_false] at hv;rcases hv with rfl|rfl|rfl|rfl|rfl<;>assumption
def MR {a b c d e f:V}(ha:P a)(hb:P b)(hc:P c)(hd:P d)(he:P e)(hf:P f):∀ v ∈ [a,b,c,d,e,f],P v:=λv hv=>by
 simp only[nb,not_mem_nil,or_false] at hv;rcases hv with rfl|rfl|rfl|rfl|rfl|rfl<;>assumption
def yD {M:Int}(hk:2<=k)(s:Sep (hand h m::O) H)(hm:m<=1099510000000)(hM0:1<=M)(hM1:M<=60)(q:∀ p ns H',1<=ns.length->(ns.length:Int)<=M->cZ ns->Sep (pt p (.lst (ns.map V.int))::hand h (m+300)::O) H'->Q (.ref p) H'):ab tab R k oz [.ref h,.int M] H Q E:=by
 refine wc (d:=g8) nofun rfl rfl ?_;walk_at "gd";rename_i mn H2 mn0 mn1 hs2;refine ow (n:=(1+mn).toNat) nofun (λD ys H=>∃ ns:List Int,ys=ns.map V.int/\cZ ns/\Sep (pt D (.lst ys)::hand h (m+2+4*((ys.length:Nat):Int))::O) H) (λD hD=>⟨[],rfl,λi hi=>absurd hi (by simp),(ao ((hs2.new (o:=.lst []) hD).pull (.t .e)) (by simp)).pull (.t .e)⟩) (λD ys H hl hI=>?_) (λD ys H hl hI=>?_)
 ·obtain ⟨ns,e,hc,hs⟩:=hI;walk_at "gd";rename_i l1 H3 hs3 r1 H4 r10 r11 hs4;rw[EA] at hs4;obtain ⟨v,e2,N,rfl,N0,N1⟩:=dX (xs:=[.int 3,.int 1000,.int 300000000]) (P:=inR 1 300000000) (r:=r1) r10 (by simpa using r11) (Kx (.mk (by decide) (by decide)) (.mk (by decide) (by decide)) (.mk (by decide) (by decide)));refine aD (by grind) e2 ?_;walk_at "gd";rename_i r2 H5 r20 r21 hs5;refine oE.mk (by grind) nofun ⟨ns++[r2],by rw[e];simp,ue hc nofun nofun,?_⟩;have hs7:=(hs5.pull (A:=pt D (.lst ys)) (by symm)).set (o':=.lst (ys++[.int r2])) rfl;refine ((ao (n:=m+2+4*(((ys++[V.int r2]).length:Nat):Int)) (hs7.pull (A:=hand h _) (by symm)) ?_).sub (by ac_nf));rw[ci,ge]
  omega
 ·obtain ⟨ns,rfl,hc,hs⟩:=hI;rw[ce] at hl;refine q D ns H nofun nofun hc ?_;exact (ao (hs.pull (.t .e)) (by rw[ce];omega)).pull (.t .e)
def xQ {h t l w:Int}(z:Sep O H)(r:a9 (pt d (.dK [])) (pt d (.dK [(.inr "here",.int h),(.inr "there",.int t),(.inr "left",.int l),(.inr "way",.int w)])) O Γ') (q:∀ H',Sep Γ' H'->Q (.ref d) H'):uU ["here","there","left","way"] d [.int h,.int t,.int l,.int w] H Q:=by
 obtain ⟨Δ,p1,p2⟩:=r.bO;unfold uU;exact ⟨z.get p1,q _ (z.put r rfl)⟩
def Eb {M:Int}(hk:2<=k)(s:Sep (hand h m::O) H)(hm:m<=1099510000000)(hM0:1<=M)(hM1:M<=60)
  (q:∀ d x H',Bx.ok x->Sep (aq d x::hand h (m+30)::O) H'->Q (.ref d) H'):ab tab R k tH [.ref h,.int M] H Q E:=by
 refine wc (d:=kI) nofun rfl rfl ?_;walk_at "gd";refine ow (n:=2) nofun (λD ys H=>∃ ns:List Int,ys=ns.map V.int/\(∀ i ∈ ns,-1000000000<=i/\i<=1000000000)/\Sep (pt D (.lst ys)::hand h (m+3*((ys.length:Nat):Int))::O) H) (λD hD=>⟨[],rfl,λi hi=>absurd hi (by simp),(ao ((s.new (o:=.lst []) hD).pull (.t .e)) (by simp)).pull (.t .e)⟩) (λD ys H hl hI=>?_) (λD ys H hl hI=>?_)
 ·obtain ⟨ns,e,hc,hs⟩:=hI;walk_at "gd";rename_i r1 H3 r10 r11 hs3 l1 H4 hs4 r2 H5 r20 r21 hs5;rw[iN] at hs5;obtain ⟨v,e2,N,rfl,N0,N1⟩:=dX (xs:=[.int r1,.int 0,.int (M-1),.int M,.int (-1),.int 1000000000]) (P:=inR (-1000000000) 1000000000) (r:=r2) r20 (by simpa using r21) (MR (.mk nofun nofun) (.mk (by decide) (by decide)) (.mk nofun nofun) (.mk nofun nofun) (.mk (by decide) (by decide)) (.mk (by decide) (by decide)));refine aD (by grind) e2 ?_;refine oE.mk (by grind) nofun ⟨ns++[N],by rw[e];simp,λi hi=>?_,?_⟩
  ·rcases mem_append.mp hi with hi|hi
   ·exact hc i hi
   ·rw[mem_singleton.mp hi];exact ⟨N0,N1⟩
  have hs7:=(hs5.pull (A:=pt D (.lst ys)) (by symm)).set (o':=.lst (ys++[.int N])) rfl;refine ((ao (n:=m+3*(((ys++[V.int N]).length:Nat):Int)) (hs7.pull (A:=hand h _) (by symm)) ?_).sub (by ac_nf));rw[ci,ge]
  omega
 obtain ⟨ns,rfl,hc,hs⟩:=hI;rw[ce] at hl
 match ns,hl,hc,hs with
 | [a,b],_,hc,hs=>
  have ha:=hc a (by simp);have hb:=hc b (by simp);have hs2:Sep (hand h (m+6)::pt D (.lst [.int a,.int b])::O) H:=ao (hs.pull (.t .e)) (by simp);clear s hs;walk_at "gd";rename_i r1 H3 r10 r11 hs3 l1 H4 hs4 r2 H5 r20 r21 hs5;rw[iN] at hs5;obtain ⟨v,e2,lf,rfl,lf0,lf1⟩:=dX (xs:=[.int r1,.int M,.int (M+1),.int 1000000000,.int 0]) (P:=inR 0 1000000000) (r:=r2) r20 (by simpa using r21) (MY (.mk nofun nofun) (.mk nofun nofun) (.mk nofun nofun) (.mk (by decide) (by decide)) (.mk (by decide) (by decide)));refine aD (by grind) e2 ?_;right;intro d hd;have hs8:=hs5.new (o:=.dK []) hd;generalize upd H5 d (.dK [])=H8 at hs8⊢;clear hs2 hs3 hs4 hs5;walk_at "gd";rename_i w2 H9 w20 w21 hs9;refine xQ hs9 (by ac_rfl) (λH10 hs10=>?_);clear hs8 hs9;walk_at "gd";rename_i l2 H11 hs11 r3 H12 r30 r31 hs12;rw[EA] at hs12;obtain ⟨v,e3,N,rfl,N0,N1⟩:=dX (xs:=[.int 3,.int 300000000]) (P:=inR 1 300000000) (r:=r3) r30 (by simpa using r31) (Lv (.mk (by decide) (by decide)) (.mk (by decide) (by decide)));refine aD (by grind) e3 ?_;clear hs10 hs11;walk_at "gd";rename_i sg H13 sg0 sg1 hs13;refine uV (k:=.inr "sign") (kvs':=[(.inr "here",.int a),(.inr "there",.int b),(.inr "left",.int lf),(.inr "way",.int (1-2*w2)),(.inr "sign",.int sg)]) hs13 (by ac_rfl) (pc rfl) rfl (λH14 hs14=>?_);clear hs12 hs13;walk_at "gd";rename_i mt H15 mt0 mt1 hs15;refine uV (k:=.inr "met") (kvs':=[(.inr "here",.int a),(.inr "there",.int b),(.inr "left",.int lf),(.inr "way",.int (1-2*w2)),(.inr "sign",.int sg),(.inr "met",.int mt)]) hs15 (by ac_rfl) (pc rfl) rfl (λH16 hs16=>?_);right;refine q d ⟨a,b,lf,1-2*w2,sg,mt⟩ H16 ?_ ?_
  ·refine ⟨ha,hb,⟨lf0,lf1⟩,?_,⟨?_,?_⟩,?_⟩<;>dsimp only<;>omega
  ·have z:Sep (hand h (m+6+1+1+1+1+1+1)::pt d (.dK [(.inr "here",.int a),(.inr "there",.int b),(.inr "left",.int lf),(.inr "way",.int (1-2*w2)),(.inr "sign",.int sg),(.inr "met",.int mt)])::O) H16:=hs16.sub (by ac_nf);exact (ao z nofun).pull (.t .e)
def G9 {y:V}(s:Sep O H)(r:a9 (pt a (.lst xs)) (pt a (.lst (xs.take i.toNat++y::xs.drop i.toNat))) O Γ')(h0:0<=i)(h1:i<=xs.length)(hl:xs.length<=10000)(h:∀ H',Sep Γ' H'->Q .non H'):GA .insert a xs [.int i,y] H Q:=by unfold GA;exact ⟨i,y,rfl,h0,h1,hl,h _ (s.put r rfl)⟩
def Aw {f:α->aB}{x:α}{l:List α}{r:Nat}:ag (f x) ((l.take r++x::l.drop r).map f++O) (l.map f++O):=by
 have e:l.map f++O=(l.take r).map f++((l.drop r).map f++O):=by rw[<-le,<-f8,take_append_drop]
 rw[e,f8,le];exact aa .e
abbrev kC (n:Int)(L:List Pt):Prop:=(∀ q ∈ L,0<=q.i/\q.i<q.j/\q.j<=n)/\L.Pairwise Cc
def Cc.symm {a b:Pt}(h:Cc a b):Cc b a:=by unfold Cc at h⊢;omega
def wt {n:Int}{L:List Pt}{x:Pt}{r:Nat}(h:kC n L)(h0:0<=x.i)(h1:x.i<x.j)(h2:x.j<=n)(hx:∀ q ∈ L,q.j<=x.i):kC n (L.take r++x::L.drop r):=by
 have pm:(L.take r++x::L.drop r).Perm (x::L):=by
  have:=List.perm_middle (a:=x) (l₁:=L.take r) (l₂:=L.drop r)
  rwa [take_append_drop] at this
 refine ⟨λq hq=>?_,(pm.pairwise_iff Cc.symm).mpr (List.pairwise_cons.mpr ⟨λq hq=>?_,h.2⟩)⟩
 ·rcases nb.mp (pm.mem_iff.mp hq) with rfl|hq
  ·exact ⟨h0,h1,h2⟩
  ·exact h.1 q hq
 ·have:=hx q hq;unfold Cc
  omega
def zF {n:Int}(hk:2<=k)(s:Sep (hand h m::O) H)(hm:m<=1099510000000)(n0:1<=n)(n60:n<=60)
  (q:∀ D (L:List Pt) H',1<=L.length->L.length<=4->kC n L->Sep (pt D (.lst (L.map cq))::hand h (m+30)::(L.map dc++O)) H'->Q (.ref D) H'):ab tab R k pS [.ref h,.int n] H Q E:=by
 refine wc (d:=iD) nofun rfl rfl ?_;walk_at "gd";rename_i D H1 hs1 r1 H2 r10 r11 hs2 l1 H3 hs3 r2 H4 r20 r21 hs4;obtain ⟨v,e2,lo,rfl,lo0,lo1⟩:=dX (xs:=[.int 0,.int r1]) (P:=inR 0 (n-1)) (r:=r2) r20 (by simpa using r21) (Lv (.mk (by decide) nofun) (.mk nofun nofun));refine aD (by grind) e2 ?_;have hs5:Sep (hand h (m+2)::pt D (.lst [])::O) H4:=ao (hs4.sub (Γ':=hand h _::pt D (.lst [])::O) (by ac_nf)) nofun;clear hs1 hs2 hs3 hs4 s;walk_at "gd";rename_i r3 H5 r30 r31 hs6;refine dM (λj U H=>∃ lw u v,∃ L:List Pt,U=[some (.ref h),some (.int n),some (.ref D),some (.int lw),u,v]/\0<=lw/\(∀ q ∈ L,q.j<=lw)/\(j=0->lw<n)/\(1<=j->1<=L.length)/\L.length<=j/\kC n L/\Sep (pt D (.lst (L.map cq))::hand h (m+3+5*(j:Int))::(L.map dc++O)) H) ?_ ?_ ?_
 ·exact ⟨lo,none,none,[],rfl,lo0,λq hq=>absurd hq (by simp),λ_=>by omega,λh=>absurd h nofun,re _,⟨λq hq=>absurd hq (by simp),.nil⟩,(ao hs6 nofun).pull (.t .e)⟩
 ·rintro j U H hj ⟨lw,u,v,L,rfl,g0,g1,g2,g3,g4,g5,zz⟩;walk_at "gd";refine ax (λhlt=>?_) (λhlt=>?_)
  ·walk_at "gd";rename_i l2 H6 z6 r4 H7 r40 r41 z7;obtain ⟨v2,e3,N,rfl,N0,N1⟩:=dX (xs:=[.int (n-lw),.int (min 9 (n-lw))]) (P:=inR 1 (n-lw)) (r:=r4) r40 (by simpa using r41) (Lv (.mk nofun nofun) (.mk nofun nofun));refine aD (by grind) e3 ?_;clear z6;walk_at "gd";rename_i r5 H8 r50 r51 z8;have z9:Sep (pt D (.lst (L.map cq))::hand h (m+3+5*(j:Int)+2)::(L.map dc++O)) H8:=(ao (z8.sub (Γ':=hand h _::pt D (.lst (L.map cq))::(L.map dc++O)) (by ac_nf)) nofun).pull (.t .e);clear z7 z8;refine ⟨D,_,rfl,z9.at,?_⟩;right;rw[ce];refine ly nofun (z9.pull (.t .e)) nofun nofun nofun (λr6 H9 r60 r61 z10=>?_);right;rename_i X H10 z11;have z12:Sep (dc ⟨X,lw,lw+1+r5⟩::pt D (.lst (L.map cq))::hand h (m+3+5*(j:Int)+2+1)::(L.map dc++O)) H10:=(z11.pull (A:=pt X _) (by symm)).toT.sub (Γ':=tu X _::pt D (.lst (L.map cq))::hand h _::(L.map dc++O)) (by ac_nf);have z13:=Sep.push (.t (.t (Aw (r:=r6.toNat)))) z12;refine ⟨_,z13.at,G9 z13 .e r60 (by rw[ce];omega) (by rw[ce];omega) (λH11 z14=>?_)⟩;have em:(L.map cq).take r6.toNat++V.ref X::(L.map cq).drop r6.toNat=(L.take r6.toNat++(⟨X,lw,lw+1+r5⟩:Pt)::L.drop r6.toNat).map cq:=by
    rw[f8,map_cons,map_take,map_drop]
    rfl
   rw[em] at z14;clear z9 z10 z11 z12 z13;walk_at "gd";rename_i l3 H12 z15 r7 H13 r70 r71 z16;obtain ⟨v3,e4,s,rfl,s0,s1⟩:=dX (xs:=[.int 0,.int 0,.int 1,.int 3]) (P:=inR 0 3) (r:=r7) r70 (by simpa using r71) (K1 (.mk (by decide) (by decide)) (.mk (by decide) (by decide)) (.mk (by decide) (by decide)) (.mk (by decide) (by decide)));refine aD (by grind) e4 ?_;right;refine ⟨lw+1+r5+s,_,_,_,rfl,by omega,λq hq=>?_,λh=>absurd h nofun,λ_=>?_,?_,wt (r:=r6.toNat) (x:=⟨X,lw,lw+1+r5⟩) g5 (by dsimp only;omega) (by dsimp only;omega) (by dsimp only;omega) (λq hq=>g1 q hq),?_⟩
   ·rcases mem_append.mp hq with hq|hq
    ·have:=g1 q (List.mem_of_mem_take hq)
     omega
    ·rcases nb.mp hq with rfl|hq
     ·dsimp only
      omega
     ·have:=g1 q (List.mem_of_mem_drop hq)
      omega
   ·rw[ci,length_cons]
    omega
   ·rw[ci,length_cons,db,jp]
    omega
   ·exact (ao (n:=m+3+5*(((j+1:Nat):Nat):Int)) (z16.pull (A:=hand h _) (by symm)) nofun).sub (by ac_nf)
  ·right;refine ⟨lw,_,_,L,rfl,g0,g1,λh=>absurd h nofun,λ_=>g3 nofun,by omega,g5,?_⟩;exact (ao (zz.pull (.t .e)) nofun).pull (.t .e)
 ·rintro U H ⟨lw,u,v,L,rfl,g0,g1,g2,g3,g4,g5,zz⟩;right;refine q D L H (g3 nofun) nofun g5 ?_;exact (ao (zz.pull (.t .e)) nofun).pull (.t .e)
structure Mb where
 t:Addr
 SP:Addr
 d:Addr
 i:Int
 j:Int
 S:List (Addr×Rw)
 x:Bx
abbrev bz (q:Mb):V:=.ref q.t
abbrev bt (q:Mb):Int×Int:=(q.i,q.j)
abbrev dj (a b:Int×Int):Prop:=min a.2 b.2<=max a.1 b.1
abbrev aU (q:Mb):aB:=bx λ_:Unit=>tu q.t [.int q.i,.int q.j,.ref q.SP,.ref q.d]::pt q.SP (.lst (q.S.map dD))::aq q.d q.x::q.S.reverse.map fM
def mF {q:Mb}(z:Sep (aU q::O) H):Sep (tu q.t [.int q.i,.int q.j,.ref q.SP,.ref q.d]::pt q.SP (.lst (q.S.map dD))::aq q.d q.x::(q.S.reverse.map fM++O)) H:=let ⟨_,z⟩:=iq z;z
def yV {q:Mb}(z:Sep (tu q.t [.int q.i,.int q.j,.ref q.SP,.ref q.d]::pt q.SP (.lst (q.S.map dD))::aq q.d q.x::(q.S.reverse.map fM++O)) H):Sep (aU q::O) H:=fQ () z
abbrev IH (n:Int)(q:Mb):Prop:=(0<=q.i/\q.i<q.j/\q.j<=n)/\(1<=q.S.length/\q.S.length<=24)/\(∀ r ∈ q.S.map (·.2),Rw.ok r)/\q.x.ok
def tY {M:Int}{cs:List Int}(hk:3<=k)(s:Sep (hand h m::pt C (.lst (cs.map V.int))::O) H)(hm:m<=1099500000000)(M0:1<=M)(M1:M<=24)(c0:1<=cs.length)(c60:cs.length<=60)
  (q:∀ D (L:List Mb) H',1<=L.length->L.length<=4->(∀ q ∈ L,IH cs.length q)->(L.map bt).Pairwise dj->Sep (pt D (.lst (L.map bz))::hand h (m+2000)::pt C (.lst (cs.map V.int))::(L.map aU++O)) H'->Q (.ref D) H'):ab tab R k lx [.ref h,.ref C,.int M] H Q E:=by
 refine wc (d:=fq) nofun rfl rfl ?_;right;rename_i D H1 z1;rw[ce];refine zF (m:=m) nofun (ao (z1.pull (A:=hand h m) (by symm)) nofun) nofun nofun nofun (λPL P H2 p0 p1 ok z2=>?_);have z3:Sep (pt D (.lst [])::hand h (m+30)::pt PL (.lst (P.map cq))::pt C (.lst (cs.map V.int))::(P.map dc++O)) H2:=(Sep.mv (P:=[_,_]) (Δ:=P.map dc) (L:=[_,_]) (O:=O) z2).sub (O:=pt PL (.lst (P.map cq))::hand h (m+30)::pt D (.lst [])::pt C (.lst (cs.map V.int))::(P.map dc++O)) (by ac_nf);clear z1 z2 s;right;refine c8 (xs:=P.map cq) (λj U H=>∃ u v w,∃ L:List Mb,U=[some (.ref h),some (.ref C),some (.int M),some (.ref D),u,v,w]/\L.map bt=(P.take j).map ij/\(∀ q ∈ L,IH cs.length q)/\Sep (pt D (.lst (L.map bz))::hand h (m+30+290*(j:Int))::pt PL (.lst (P.map cq))::pt C (.lst (cs.map V.int))::(L.map aU++(P.map dc++O))) H) ?_ ?_ ?_ ?_
 ·exact ⟨none,none,none,[],rfl,rfl,λq hq=>absurd hq (by simp),(ao (z3.pull (.t .e)) nofun).pull (.t .e)⟩
 ·rintro j U H ⟨u,v,w,L,rfl,e,hK,zz⟩;exact aR.of (zz.get (.t (.t .e)))
 ·rintro j x U H hx ⟨u,v,w,L,rfl,e,hK,zz⟩;rw[io] at hx;obtain ⟨pp,ep,rfl⟩:=nw.mp hx;have hj:=(tz.mp ep).1;have hlL:L.length=j:=by
   have:=congrArg List.length e;rw[ce,ce,db] at this
   omega
  obtain ⟨o0,o1,o2⟩:=ok.1 pp (cr ep);obtain ⟨Δ1,pp1⟩:=bh (f:=dc) (cr ep);left;refine ⟨pp.p,_,rfl,.inl (aX.of (zz.ef (.t (.t (.t (.t (aa (pp1 _)))))))),rfl,?_⟩;walk_at "gd";rename_i r2 H3 r20 r21 z4;have z5:Sep (hand h (m+31+290*(j:Int))::pt D (.lst (L.map bz))::pt PL (.lst (P.map cq))::pt C (.lst (cs.map V.int))::(L.map aU++(P.map dc++O))) H3:=ao z4 nofun;clear zz z4;refine ow (n:=(1+r2).toNat) nofun (λD' ys H=>∃ S:List (Addr×Rw),ys=S.map dD/\(∀ r ∈ S.map (·.2),Rw.ok r)/\Sep (pt D' (.lst ys)::hand h (m+31+290*(j:Int)+10*((ys.length:Nat):Int))::pt D (.lst (L.map bz))::pt PL (.lst (P.map cq))::pt C (.lst (cs.map V.int))::(S.reverse.map fM++(L.map aU++(P.map dc++O)))) H) (λD hD=>⟨[],rfl,λp hp=>absurd hp (by simp),(ao ((z5.new (o:=.lst []) hD).pull (.t .e)) (by simp)).pull (.t .e)⟩) (λD' ys H hl hI=>?_) (λSP ys H hl hI=>?_)
  ·obtain ⟨S,e,ok,hs⟩:=hI;right;refine DB nofun (hs.pull (.t .e)) nofun nofun nofun (λt r H7 o hs7=>?_);have hs8:=(hs7.pull (A:=pt D' (.lst ys)) (by symm)).set (o':=.lst (ys++[.ref t])) rfl;refine oE.mk (hs7.get (by symm)) nofun ⟨S++[(t,r)],by rw[e];simp[dD],λp hp=>?_,?_⟩
   ·rw[f8] at hp;rcases mem_append.mp hp with hp|hp
    ·exact ok p hp
    ·rw[mem_singleton.mp hp];exact o
   ·rw[List.reverse_append,f8,le];show Sep (pt D' _::hand h _::pt D (.lst (L.map bz))::pt PL (.lst (P.map cq))::pt C (.lst (cs.map V.int))::tu t r.tl::(S.reverse.map fM++(L.map aU++(P.map dc++O)))) _;exact (ao (n:=m+31+290*(j:Int)+10*(((ys++[V.ref t]).length:Nat):Int)) (hs8.pull (A:=hand h _) (by symm)) (by rw[ci,ge];omega)).sub (by ac_nf)
  obtain ⟨S,rfl,okS,hs6⟩:=hI;rw[ce] at hl hs6;have z7:Sep (hand h (m+280+290*(j:Int))::pt SP (.lst (S.map dD))::pt D (.lst (L.map bz))::pt PL (.lst (P.map cq))::pt C (.lst (cs.map V.int))::(S.reverse.map fM++(L.map aU++(P.map dc++O)))) H:=ao (hs6.pull (.t .e)) nofun;clear z5 hs6;right;refine ⟨D,_,rfl,z7.get (by symm),?_⟩;right;refine Eb (M:=pp.j-pp.i) nofun z7 nofun nofun nofun (λd x H8 hx z8=>?_);right;rename_i t H9 z9;refine ⟨_,z9.get (by symm),qL z9 (by ac_rfl) (by rw[ce];omega) (λH10 z10=>?_)⟩;right;refine ⟨_,_,_,L++[⟨t,SP,d,pp.i,pp.j,S,x⟩],rfl,?_,λq hq=>?_,?_⟩
  ·rw[cA ep,f8,f8,e]
   rfl
  ·rcases mem_append.mp hq with hq|hq
   ·exact hK q hq
   ·rw[mem_singleton.mp hq];exact ⟨⟨o0,o1,o2⟩,⟨by dsimp only;omega,by dsimp only;omega⟩,okS,hx⟩
  ·have z11:Sep (tu t [.int pp.i,.int pp.j,.ref SP,.ref d]::pt SP (.lst (S.map dD))::aq d x::pt D (.lst (L.map bz++[.ref t]))::hand h (m+30+290*((j+1:Nat):Int))::pt PL (.lst (P.map cq))::pt C (.lst (cs.map V.int))::(S.reverse.map fM++(L.map aU++(P.map dc++O)))) H10:=(ao (n:=m+30+290*((j+1:Nat):Int)) (z10.toT.pull (A:=hand h _) (by symm)) nofun).sub (by ac_nf);have z12:Sep (aU ⟨t,SP,d,pp.i,pp.j,S,x⟩::pt D (.lst (L.map bz++[.ref t]))::hand h (m+30+290*((j+1:Nat):Int))::pt PL (.lst (P.map cq))::pt C (.lst (cs.map V.int))::(L.map aU++(P.map dc++O))) H10:=yV (Sep.mv (P:=[_,_,_]) (Δ:=[_,_,_,_]) (L:=S.reverse.map fM) z11);have z13:=Sep.push (.t (.t (.t (.t bW)))) z12;rw[f8];exact z13
 ·rintro U H ⟨u,v,w,L,rfl,e,hK,zz⟩;right;rw[ce,take_length] at e;have hl:L.length=P.length:=by
   have:=congrArg List.length e
   rwa [ce,ce] at this
  refine q D L H nofun nofun hK ?_ ?_
  ·rw[e];exact List.pairwise_map.mpr ok.2
  ·rw[ce] at zz;have z4:Sep (pt D (.lst (L.map bz))::hand h (m+2000)::pt C (.lst (cs.map V.int))::(L.map aU++(P.map dc++O))) H:=(ao (n:=m+2000) (zz.pull (.t .e)) nofun).sub (by ac_nf);exact Sep.cut (A:=pt D _::hand h _::pt C _::L.map aU) (B:=P.map dc) z4
abbrev Ib (q:Mh):(Int×Int)×List Rw×Bx:=((q.i,q.j),q.rs,q.x)
abbrev yR (q:Mb):(Int×Int)×List Rw×Bx:=((q.i,q.j),q.S.map (·.2),q.x)
abbrev Em (cs:List Int)(e:(Int×Int)×List Rw×Bx):Mm:=⟨0,0,e.2.1,e.2.2,(cs.drop e.1.1.toNat).take (e.1.2.toNat-e.1.1.toNat),sK (e.1.2.toNat-e.1.1.toNat) "open"⟩
variable {L:List Mb}
def AI {G:List Mh}(e:G.map Ib=L.map yR){a:Mh}(h:G[n]? =some a):∃ b,L[n]? =some b/\Ib a=yR b:=by
 have h2:(G.map Ib)[n]? =(L.map yR)[n]? :=by rw[e]
 rw[io,io,h] at h2;obtain ⟨b,e1,e2⟩:=nw.mp h2.symm;exact ⟨b,e1,e2.symm⟩
def rm {o:Mb}(h:L[n]? =some o):(L.map bz)[n]? =some (.ref o.t):=by rw[io,h];rfl
def Dm {ML:Addr}{cs:List Int}(ro:Ro K R)(hk:10<=k)(n0:1<=L.length)(n1:L.length<=4)(ok:∀ q ∈ L,IH cs.length q) (hd:(L.map bt).Pairwise dj) (c0:1<=cs.length) (c60:cs.length<=60) (hc:cZ cs) (z:Sep (pt C (.lst (cs.map V.int))::pt ML (.lst (L.map bz))::(L.map aU++O)) H)
  (h:∀ c (M:List Mm) H',M.map DW=L.map (λq=>Em cs (yR q))->Sep (bJ R c cs (sK cs.length "open") (L.map bt) (M.map bF)::(M.map (a8 R)++(pt C (.lst (cs.map V.int))::pt ML (.lst (L.map bz))::(L.map aU++O)))) H'->Q (.ref c) H'):ab tab R k qm [.ref C,.ref ML] H Q E:=by
 refine wc (d:=jT) nofun rfl rfl ?_;right;rename_i SM H1 z1;have z2:Sep (pt SM (.lst [])::pt C (.lst (cs.map V.int))::pt ML (.lst (L.map bz))::(L.map aU++O)) H1:=z1;clear z z1;refine c8 (xs:=L.map bz) (λj U H=>∃ u3 u4 u5 u6 u7,∃ G:List Mh,U=[some (.ref C),some (.ref ML),some (.ref SM),u3,u4,u5,u6,u7]/\G.map Ib=(L.take j).map yR/\Sep (pt SM (.lst (G.map kq))::pt C (.lst (cs.map V.int))::pt ML (.lst (L.map bz))::(G.map (qi R)++(G.map qb++(L.map aU++O)))) H) ?_ ?_ ?_ ?_
 ·exact ⟨none,none,none,none,none,[],rfl,rfl,z2⟩
 ·rintro j U H ⟨u3,u4,u5,u6,u7,G,rfl,e,zz⟩;exact aR.of (zz.get (.t (.t .e)))
 ·rintro j x U H hx ⟨u3,u4,u5,u6,u7,G,rfl,e,zz⟩;rw[io] at hx;obtain ⟨o,eo,rfl⟩:=nw.mp hx;obtain ⟨oi,⟨os0,os1⟩,oR,ox⟩:=ok o (cr eo);have z3:=mF (zz.pull (.t (.t (.t (aa (aa (aj eo)))))));generalize eT:G.map (qi R)++(G.map qb++((L.eraseIdx j).map aU++O))=T at z3;clear zz z2;left;refine ⟨o.t,_,rfl,.inl (aX.of z3.atT),rfl,?_⟩;obtain ⟨ot,oSP,od,oii,oj,oS,⟨xh,xt,xl,xw,xs,xm⟩⟩:=o;dsimp only at*;walk_at "wd";intro b dx2 g1 g2 g3;refine yt ro nofun ox (hR z3 g1 g2 g3) (λH4 z4=>⟨rfl,?_⟩);generalize (⟨xh,xt,xl,xw,xs,xm⟩:Bx)=x at*;have z5:Sep (aJ R b x::tu ot [.int oii,.int oj,.ref oSP,.ref od]::pt oSP (.lst (oS.map dD))::aq od x::pt SM (.lst (G.map kq))::pt C (.lst (cs.map V.int))::pt ML (.lst (L.map bz))::(oS.reverse.map fM++T)) H4:=Sep.mv (P:=[_,_,_,_]) (Δ:=oS.reverse.map fM) (L:=[_,_,_]) (O:=T) z4;clear z3 z4;have hs:=kZ (S:=oS) (O:=T) rfl oR;right;refine ⟨SM,_,rfl,z5.get (by symm),?_⟩;right;refine l6 (xs:=oS.map dD) (by rw[ce];omega) (λD ys H=>∃ Lr:List (Addr×Rw),ys=Lr.map dD/\Lr.map (·.2)=(oS.map (·.2)).take ys.length/\Sep (pt D (.lst ys)::aJ R b x::tu ot [.int oii,.int oj,.ref oSP,.ref od]::pt oSP (.lst (oS.map dD))::aq od x::pt SM (.lst (G.map kq))::pt C (.lst (cs.map V.int))::pt ML (.lst (L.map bz))::(Lr.reverse.map (sF R)++(oS.reverse.map fM++T))) H) (λD ys H hI=>?_) (λD hD=>⟨[],rfl,rfl,z5.new (o:=.lst []) hD⟩) (λD ys y H hy hI=>?_) (λDL ys H hl2 hI=>?_)
  ·obtain ⟨Lr,_,_,hs⟩:=hI;exact aR.of (by grind)
  ·obtain ⟨Lr,e1,e2,z6⟩:=hI;have hyl:=(tz.mp hy).1;have er:(oS.map (·.2))[ys.length]? =some ((oS.map (·.2))[ys.length]'(by have:=hs.1;omega)):=li _;generalize (oS.map (·.2))[ys.length]'(by have:=hs.1;omega)=r at er;obtain ⟨t,Δ,e3,pp⟩:=hs.2.2 _ _ er;rw[hy] at e3;cases e3;right;refine AG r ro nofun (hs.2.1 _ (cr er)) (Sep.Kk (z6.ef (.t (.t (.t (.t (.t (.t (.t (.t (aa pp))))))))))  z6) (λde H7 z7=>?_);have z8:=(z7.pull (A:=pt D (.lst ys)) (by symm)).set (o':=.lst (ys++[.ref de])) rfl;refine oE.mk (z7.get (by symm)) (by rw[ce] at hyl;omega) ⟨Lr++[(de,r)],by rw[e1];simp[dD],?_,?_⟩
   ·rw[f8,e2,ci,ge,take_succ,er]
    rfl
   ·rw[List.reverse_append,f8,le];show Sep (pt D _::aJ R b x::tu ot [.int oii,.int oj,.ref oSP,.ref od]::pt oSP (.lst (oS.map dD))::aq od x::pt SM (.lst (G.map kq))::pt C (.lst (cs.map V.int))::pt ML (.lst (L.map bz))::nA R de r::(Lr.reverse.map (sF R)++(oS.reverse.map fM++T))) _;exact z8.sub (by ac_nf)
  obtain ⟨Lr,rfl,e2,z6⟩:=hI;have e3:Lr.map (·.2)=oS.map (·.2):=by
   rw[e2,hl2,hs.1];exact take_of_length_le (re _)
  clear z5;right;rename_i t2 H8 z7;have hlG:G.length<=4:=by
   have:=congrArg List.length e;rw[ce,ce,db] at this
   omega
  refine ⟨_,z7.get (by symm),qL z7 (by ac_rfl) (by rw[ce];omega) (λH9 z8=>?_)⟩;right;refine ⟨_,_,_,_,_,G++[⟨t2,oii,oj,DL,b,oS.map (·.2),x⟩],rfl,?_,?_⟩
  ·rw[cA eo,f8,f8,e]
   rfl
  have z9:Sep (pt DL (.lst (Lr.map dD))::aJ R b x::tu t2 [.int oii,.int oj,.ref DL,.ref b]::tu ot [.int oii,.int oj,.ref oSP,.ref od]::pt oSP (.lst (oS.map dD))::aq od x::pt SM (.lst (G.map kq++[.ref t2]))::pt C (.lst (cs.map V.int))::pt ML (.lst (L.map bz))::(Lr.reverse.map (sF R)++(oS.reverse.map fM++T))) H9:=z8.toT.sub (by ac_nf);have z10:Sep (qi R ⟨t2,oii,oj,DL,b,oS.map (·.2),x⟩::tu t2 [.int oii,.int oj,.ref DL,.ref b]::tu ot [.int oii,.int oj,.ref oSP,.ref od]::pt oSP (.lst (oS.map dD))::aq od x::pt SM (.lst (G.map kq++[.ref t2]))::pt C (.lst (cs.map V.int))::pt ML (.lst (L.map bz))::(oS.reverse.map fM++T)) H9:=K8 (L:=Lr) e3 (Sep.mv (P:=[_,_]) (Δ:=[_,_,_,_,_,_,_]) (L:=Lr.reverse.map (sF R)) z9);have z11:Sep (tu ot [.int oii,.int oj,.ref oSP,.ref od]::pt oSP (.lst (oS.map dD))::aq od x::qi R ⟨t2,oii,oj,DL,b,oS.map (·.2),x⟩::tu t2 [.int oii,.int oj,.ref DL,.ref b]::pt SM (.lst (G.map kq++[.ref t2]))::pt C (.lst (cs.map V.int))::pt ML (.lst (L.map bz))::(oS.reverse.map fM++T)) H9:=z10.sub (by ac_nf);have z12:Sep (aU ⟨ot,oSP,od,oii,oj,oS,x⟩::qi R ⟨t2,oii,oj,DL,b,oS.map (·.2),x⟩::qb ⟨t2,oii,oj,DL,b,oS.map (·.2),x⟩::pt SM (.lst (G.map kq++[.ref t2]))::pt C (.lst (cs.map V.int))::pt ML (.lst (L.map bz))::T) H9:=yV (Sep.mv (P:=[_,_,_]) (Δ:=[_,_,_,_,_]) (L:=oS.reverse.map fM) z11);subst eT;have z13:=Sep.push (.t (.t (.t (.t (.t (aa (aa (aj eo)))))))) z12;have z14:=Sep.push (.t (.t (.t (.t bW)))) z13;have z15:=Sep.push (.t (.t (.t (aa bW)))) z14;rw[f8 (f:=kq)];exact z15
 ·rintro U H ⟨u3,u4,u5,u6,u7,G,rfl,e,zz⟩;rw[ce,take_length] at e;have hlG:G.length=L.length:=by
   have:=congrArg List.length e
   rwa [ce,ce] at this
  clear z2;right;rename_i C2 H2 z3;intro c dx g1 g2 g3;have z4:Sep (pt C2 (.lst (cs.map V.int))::pt SM (.lst (G.map kq))::(G.map (qi R)++(G.map qb++(pt C (.lst (cs.map V.int))::pt ML (.lst (L.map bz))::(L.map aU++O))))) H2:=by
   have:=Sep.mv (P:=[_,_]) (Δ:=[_,_]) (L:=G.map (qi R)++G.map qb) (O:=L.map aU++O) (H:=H2) (by rw[le];exact z3);rw[le] at this;exact this
  refine rS ro nofun nofun nofun (λq hq=>?_) (λn m a b hn h1 h2=>?_) c0 c60 hc (hR z4 g1 g2 g3) (λM H5 eM z5=>⟨rfl,?_⟩)
  ·obtain ⟨n,hn⟩:=getElem?_of_mem hq;obtain ⟨o,eo,e2⟩:=AI e hn;obtain ⟨oi,os,oR,ox⟩:=ok o (cr eo);have a1:q.i=o.i:=congrArg (·.1.1) e2;have a2:q.j=o.j:=congrArg (·.1.2) e2;have a3:q.rs=o.S.map (·.2):=congrArg (·.2.1) e2;unfold Lp;rw[a1,a2,a3,ce];exact ⟨oi,os⟩
  ·obtain ⟨o1,eo1,e1⟩:=AI e h1;obtain ⟨o2,eo2,e2⟩:=AI e h2;have a1:a.i=o1.i:=congrArg (·.1.1) e1;have a2:a.j=o1.j:=congrArg (·.1.2) e1;have a3:b.i=o2.i:=congrArg (·.1.1) e2;have a4:b.j=o2.j:=congrArg (·.1.2) e2;have hp:=List.pairwise_iff_getElem.mp (List.pairwise_map.mp hd) n m (tz.mp eo1).1 (tz.mp eo2).1 hn;rw[(tz.mp eo1).2,(tz.mp eo2).2] at hp;have hp:min o1.j o2.j<=max o1.i o2.i:=hp;unfold Kv;rw[a1,a2,a3,a4];exact hp
  ·right;refine h c M H5 ?_ ?_
   ·rw[eM];have:∀ G:List Mh,G.map (vU cs)=(G.map Ib).map (Em cs):=λG=>by rw[List.map_map];rfl
    rw[this,e,List.map_map]
    rfl
   ·have e5:G.map B5=L.map bt:=by
     have h1:G.map B5=(G.map Ib).map (·.1):=by rw[List.map_map];rfl
     rw[h1,e,List.map_map]
     rfl
    rw[e5] at z5;exact z5
structure Wm where
 w:Addr
 at_:Int
 x:Bx
 cs:List Int
 ws:List Str
abbrev cB (q:Wm):V:=.ref q.w
abbrev vq (q:Wm):Int×Bx×List Int×List Str:=(q.at_,q.x,q.cs,q.ws)
abbrev sG (q:Mm):Int×Bx×List Int×List Str:=(q.at_,q.x,q.cs,q.ws)
abbrev cR (q:Wm):aB:=bx λe:Addr×Addr×Addr=>ir q.w e.1 e.2.1 e.2.2 q.at_ q.x q.cs q.ws []
def BV {q:Wm}(z:Sep (cR q::O) H):∃ d p lv,Sep (ir q.w d p lv q.at_ q.x q.cs q.ws O) H:=by
 obtain ⟨⟨d,p,lv⟩,z1⟩:=iq z;exact ⟨d,p,lv,z1⟩
def DX {q:Wm}{p lv:Addr}(z:Sep (ir q.w d p lv q.at_ q.x q.cs q.ws O) H):Sep (cR q::O) H:=fQ (d,p,lv) z
def xX {ML:Addr}{cs:List Int}(hk:1<=k)(n1:L.length<=4)(ok:∀ q ∈ L,IH cs.length q) (c60:cs.length<=60) (z:Sep (pt C (.lst (cs.map V.int))::pt ML (.lst (L.map bz))::(L.map aU++O)) H)
  (h:∀ WL (W:List Wm) H',W.map vq=L.map (λq=>sG (Em cs (yR q)))->Sep (pt WL (.lst (W.map cB))::pt C (.lst (cs.map V.int))::pt ML (.lst (L.map bz))::(W.map cR++(L.map aU++O))) H'->Q (.ref WL) H'):ab tab R k mz [.ref C,.ref ML] H Q E:=by
 refine wc (d:=gb) nofun rfl rfl ?_;right;rename_i WL H1 z1;have z2:Sep (pt WL (.lst [])::pt C (.lst (cs.map V.int))::pt ML (.lst (L.map bz))::(L.map aU++O)) H1:=z1;clear z z1;refine c8 (xs:=L.map bz) (λj U H=>∃ u3 u4 u5 u6,∃ W:List Wm,U=[some (.ref C),some (.ref ML),some (.ref WL),u3,u4,u5,u6]/\W.map vq=(L.take j).map (λq=>sG (Em cs (yR q)))/\Sep (pt WL (.lst (W.map cB))::pt C (.lst (cs.map V.int))::pt ML (.lst (L.map bz))::(W.map cR++(L.map aU++O))) H) ?_ ?_ ?_ ?_
 ·exact ⟨none,none,none,none,[],rfl,rfl,z2⟩
 ·rintro j U H ⟨u3,u4,u5,u6,W,rfl,e,zz⟩;exact aR.of (zz.get (.t (.t .e)))
 ·rintro j x U H hx ⟨u3,u4,u5,u6,W,rfl,e,zz⟩;rw[io] at hx;obtain ⟨o,eo,rfl⟩:=nw.mp hx;obtain ⟨⟨oi0,oi1,oi2⟩,⟨os0,os1⟩,oR,ox⟩:=ok o (cr eo);have hlW:W.length<=4:=by
   have:=congrArg List.length e;rw[ce,ce,db] at this
   omega
  have z3:=mF (zz.pull (.t (.t (.t (aa (aj eo))))));generalize eT:W.map cR++((L.eraseIdx j).map aU++O)=T at z3;clear zz z2;have z4:Sep (tu o.t [.int o.i,.int o.j,.ref o.SP,.ref o.d]::pt o.SP (.lst (o.S.map dD))::aq o.d o.x::pt WL (.lst (W.map cB))::pt C (.lst (cs.map V.int))::pt ML (.lst (L.map bz))::(o.S.reverse.map fM++T)) H:=Sep.mv (P:=[_,_,_]) (Δ:=o.S.reverse.map fM) (L:=[_,_,_]) (O:=T) z3;clear z3;left;refine ⟨o.t,_,rfl,.inl (aX.of z4.atT),rfl,?_⟩;right;refine ⟨WL,_,rfl,z4.get (by symm),?_⟩;right;refine uJ (kvs:=wK.zip (o.x.ls.map V.int)) z4 (z4.get (.t (.t .e))) (λd2 H2 z5=>?_);have z6:Sep (aq d2 o.x::tu o.t [.int o.i,.int o.j,.ref o.SP,.ref o.d]::pt o.SP (.lst (o.S.map dD))::aq o.d o.x::pt WL (.lst (W.map cB))::pt C (.lst (cs.map V.int))::pt ML (.lst (L.map bz))::(o.S.reverse.map fM++T)) H2:=z5;clear z4 z5;right;rename_i p H3 z7 b1 H4 z8 lv H5 z9 w H6 z10;have ec:=zy (xs:=cs.map V.int) (n:=o.i.toNat) (m:=o.j.toNat) (by rw[ce];omega) (by rw[ce];omega);rw[Int.toNat_of_nonneg oi0,Int.toNat_of_nonneg (by omega:0<=o.j),<-map_drop,<-map_take] at ec;have en:(sK (o.j-o.i).toNat [V.str "open"]).flatten=(sK (o.j.toNat-o.i.toNat) ("open":Str)).map V.str:=by
   have:=vW (x:=V.str "open") (n:=o.j.toNat-o.i.toNat);rw[sn] at this;rw[show (o.j-o.i).toNat=o.j.toNat-o.i.toNat by omega,map_replicate];exact this
  rw[ec,en] at z10;refine ⟨_,z10.get (by symm),qL z10 (by ac_rfl) (by rw[ce];omega) (λH7 z11=>?_)⟩;right;refine ⟨_,_,_,_,W++[⟨w,0,o.x,(cs.drop o.i.toNat).take (o.j.toNat-o.i.toNat),sK (o.j.toNat-o.i.toNat) "open"⟩],rfl,?_,?_⟩
  ·rw[cA eo,f8,f8,e]
   rfl
  have z12:Sep (tu o.t [.int o.i,.int o.j,.ref o.SP,.ref o.d]::pt o.SP (.lst (o.S.map dD))::aq o.d o.x::pt w (.lst [.int 0,.ref d2,.ref p,.ref lv])::aq d2 o.x::pt p (.lst (((cs.drop o.i.toNat).take (o.j.toNat-o.i.toNat)).map V.int))::pt lv (.lst ((sK (o.j.toNat-o.i.toNat) ("open":Str)).map V.str))::pt WL (.lst (W.map cB++[.ref w]))::pt C (.lst (cs.map V.int))::pt ML (.lst (L.map bz))::(o.S.reverse.map fM++T)) H7:=z11.sub (by ac_nf);have z13:Sep (aU o::pt w (.lst [.int 0,.ref d2,.ref p,.ref lv])::aq d2 o.x::pt p (.lst (((cs.drop o.i.toNat).take (o.j.toNat-o.i.toNat)).map V.int))::pt lv (.lst ((sK (o.j.toNat-o.i.toNat) ("open":Str)).map V.str))::pt WL (.lst (W.map cB++[.ref w]))::pt C (.lst (cs.map V.int))::pt ML (.lst (L.map bz))::T) H7:=yV (Sep.mv (P:=[_,_,_]) (Δ:=[_,_,_,_,_,_,_]) (L:=o.S.reverse.map fM) z12);subst eT;have z14:=Sep.push (.t (.t (.t (.t (.t (.t (.t (aa (aj eo))))))))) z13;have z15:=DX (q:=⟨w,0,o.x,(cs.drop o.i.toNat).take (o.j.toNat-o.i.toNat),sK (o.j.toNat-o.i.toNat) "open"⟩) z14;have z16:=Sep.push (.t (.t (.t bW))) z15;rw[f8 (f:=cB)];exact z16
 ·rintro U H ⟨u3,u4,u5,u6,W,rfl,e,zz⟩;right;rw[ce,take_length] at e;exact h WL W H e zz
section
variable {t t1 l1 w d p lv:Addr}{at_:Int}{x:Bx}{cs:List Int}{ws:List Str}
def sY (hk:2<=k)(z:Sep (pt t (.tup [.int at_,.ref t1,.ref l1])::pt l1 (.lst (cs.map V.int))::tu t1 (x.ls.map V.int)::ir w d p lv at_ x cs ws O) H)
  (q:∀ H',Sep (pt t (.tup [.int at_,.ref t1,.ref l1])::pt l1 (.lst (cs.map V.int))::tu t1 (x.ls.map V.int)::ir w d p lv at_ x cs ws O) H'->Q (.bl true) H'):ab tab R k fc [.ref t,.ref w] H Q E:=by
 refine wc (d:=cf) nofun rfl rfl ?_;left;refine cw (t:="tuple") (Ka z.at) rfl ?_;right;refine cw (t:="list") (xC (by grind)) rfl ?_;right;refine Bj z (z.get (.t (.t (.t (.t .e))))) (λp2 H5 g z5=>?_);rw[zT] at z5;have z5:Sep (pt p2 (.tup (x.ls.map V.int))::pt t (.tup [.int at_,.ref t1,.ref l1])::pt l1 (.lst (cs.map V.int))::tu t1 (x.ls.map V.int)::ir w d p lv at_ x cs ws O) H5:=z5;clear z;right;rename_i t6 H6 z6;refine um (J9 (by grind) z6.at (Gm (ns:=x.ls) (by grind) (by grind)) (vk (cs:=cs) (by grind) (by grind))) (by decide) (λe=>Sep.ne (z6.sub (Γ':=[pt t6 (.tup [.int at_,.ref p2,.ref p]),pt t (.tup [.int at_,.ref t1,.ref l1])]) (by ac_nf)) e.symm) ?_;right;refine so (t:="int") nofun rfl ?_;exact q H6 z6.drop.drop
end
def CN {A B:List Int}{a:Nat}{v:Int}(hA:a+n<A.length)(hB:B[n]? =some v):(A.take a++B.take n++A.drop (a+n)).set (a+n) v=A.take a++B.take (n+1)++A.drop (a+(n+1)):=by
 have hn:=(tz.mp hB).1;have hl:(A.take a++B.take n).length=a+n:=by rw[ci,db,db];omega
 rw[List.set_append_right _ _ nofun,hl,Nat.sub_self,List.drop_eq_getElem_cons hA,List.set_cons_zero,take_succ,hB];simp[le,Nat.add_assoc]
structure qh (cs:List Int) (L:List Mb) (M:List Mm) (W:List Wm):Prop where
 ws:W.map vq=M.map sG
 rs:M.map (·.rs)=L.map (λq=>q.S.map (·.2))
 ok:∀ q ∈ M,sC q
 fit:Ds cs.length (L.map bt) M
def qh.at {cs:List Int}{L:List Mb}{M:List Mm}{W:List Wm}(h:qh cs L M W){i:Nat}(hi:i<L.length):∃ o q u,L[i]? =some o/\M[i]? =some q/\W[i]? =some u/\vq u=sG q/\q.rs=o.S.map (·.2)/\sC q/\0<=o.i/\o.j<=cs.length/\o.i+q.cs.length=o.j:=by
 have l1:L.length=M.length:=by have:=h.fit.1;rwa [ce] at this
 have l2:W.length=M.length:=by
  have:=congrArg List.length h.ws
  rwa [ce,ce] at this
 have e1:L[i]? =some L[i]:=li hi;have e2:M[i]? =some (M[i]'nofun):=li _;have e3:W[i]? =some (W[i]'nofun):=li _;refine ⟨_,_,_,e1,e2,e3,?_,?_,h.ok _ (cr e2),h.fit.2 i _ _ (by rw[io,e1];rfl) e2⟩
 ·have h2:(W.map vq)[i]? =(M.map sG)[i]? :=by rw[h.ws]
  rw[io,io,e2,e3] at h2;exact Option.some.inj h2
 ·have h2:(M.map (·.rs))[i]? =(L.map (λq=>q.S.map (·.2)))[i]? :=by rw[h.rs]
  rw[io,io,e2,e1] at h2;exact Option.some.inj h2
section
variable {c C ML WL:Addr}{cs:List Int}{ws0:List Str}{L:List Mb}{M:List Mm}{W:List Wm}
def EV {i:Nat}(h:M[i]? =some q):(M.map bF)[i]? =some (.ref q.m):=by rw[io,h];rfl
def mV {i:Nat}{q:Wm}(h:W[i]? =some q):(W.map cB)[i]? =some (.ref q.w):=by rw[io,h];rfl
def M9 {i:Nat}(h:xs[i]? =some v):kG xs (0+(i:Int))=some v:=aw nofun (by rw[show (0+(i:Int)).toNat=i by omega];exact h)
def wo (ro:Ro K R)(hk:6<=k)(hK:qh cs L M W)(n1:L.length<=4)(c60:cs.length<=60)(z:Sep (pt C (.lst (cs.map V.int))::pt ML (.lst (L.map bz))::pt WL (.lst (W.map cB))::bJ R c cs ws0 (L.map bt) (M.map bF)::(M.map (a8 R)++(W.map cR++(L.map aU++O)))) H)
  (h:∀ H',Sep (pt C (.lst (cs.map V.int))::pt ML (.lst (L.map bz))::pt WL (.lst (W.map cB))::bJ R c cs ws0 (L.map bt) (M.map bF)::(M.map (a8 R)++(W.map cR++(L.map aU++O)))) H'->Q (.bl true) H'):ab tab R k f7 [.ref c,.ref C,.ref ML,.ref WL] H Q E:=by
 refine wc (d:=fU) nofun rfl rfl ?_;right;rename_i FL H1 z1;rw[ce];clear z;refine dM (λj U H=>∃ u5 u6,U=[some (.ref c),some (.ref C),some (.ref ML),some (.ref WL),some (.ref FL),u5,u6,none]/\Sep (pt FL (.lst ((ky cs (L.map bt) M j).map V.int))::pt C (.lst (cs.map V.int))::pt ML (.lst (L.map bz))::pt WL (.lst (W.map cB))::bJ R c cs ws0 (L.map bt) (M.map bF)::(M.map (a8 R)++(W.map cR++(L.map aU++O)))) H) ⟨none,none,rfl,z1⟩ ?_ ?_
 ·rintro j U H hj ⟨u5,u6,rfl,zz⟩;obtain ⟨o,q,u,eo,eq,eu,ews,ers,okq,f0,f1,f2⟩:=hK.at (i:=j) nofun;right;refine ae dP zz (by symm) rfl rfl ?_;left;have z2:=(zz.pull (A:=bJ R c cs ws0 (L.map bt) (M.map bF)) (by symm)).pull (.t (.t (.t (.t (.t (aj eq))))));rw[Int.zero_add];refine Bk ro nofun (EV eq) z2 (λt t1 l1 H3 z3=>?_);clear zz z2;have z4:=Sep.push (.t (.t (.t (.t (.t (.t (.t (.t (aj eq))))))))) (z3.pull (.t (.t (.t .e))));have z5:=BV (z4.pull (.t (.t (.t (.t (.t (.t (.t (.t (aa (aj eu))))))))) ));obtain ⟨d,p,lv,z5⟩:=z5;clear z3 z4;have e1:u.at_=q.at_:=congrArg (·.1) ews;have e2:u.x=q.x:=congrArg (·.2.1) ews;have e3:u.cs=q.cs:=congrArg (·.2.2.1) ews;generalize eT:M.map (a8 R)++((W.eraseIdx j).map cR++(L.map aU++O))=T at z5;have z6:Sep (pt t (.tup [.int q.at_,.ref t1,.ref l1])::pt l1 (.lst (q.cs.map V.int))::tu t1 (q.x.ls.map V.int)::ir u.w d p lv q.at_ q.x q.cs u.ws (bJ R c cs ws0 (L.map bt) (M.map bF)::pt FL (.lst ((ky cs (L.map bt) M j).map V.int))::pt C (.lst (cs.map V.int))::pt ML (.lst (L.map bz))::pt WL (.lst (W.map cB))::T)) H3:=by
   rw[e1,e2,e3] at z5;exact z5.sub (by ac_nf)
  clear z5;right;refine aD (z6.get (by symm)) (aw nofun (by rw[sn];exact mV eu)) ?_;right;refine sY nofun z6 (λH4 z7=>?_);have ht:H4 o.t=some (.tup [.int o.i,.int o.j,.ref o.SP,.ref o.d]):=by
   rw[<-eT] at z7;exact (mF (z7.pull (.t (.t (.t (.t (.t (.t (.t (.t (.t (.t (.t (.t (aa (aa (aj eo))))))))))))))))).atT
  have z8:=Sep.Kk ht z7.drop.drop.drop;clear z6 z7;refine ak rfl ?_;right;refine aD (z8.get (by symm)) (aw nofun (by rw[sn];exact mV eu)) ?_;right;have fl:=kj hK.fit j;have e4:ky cs (L.map bt) M (j+1)=(ky cs (L.map bt) M j).take o.i.toNat++q.cs++(ky cs (L.map bt) M j).drop o.j.toNat:=by
   show (match (L.map bt)[j]?,M[j]? with
    |some p,some q=>(ky cs (L.map bt) M j).take p.1.toNat++q.cs++(ky cs (L.map bt) M j).drop p.2.toNat
    |_,_=>ky cs (L.map bt) M j)=_
   rw[io,eo,eq]
   rfl
  generalize ky cs (L.map bt) M j=F at fl e4 z8;rw[sn,ce];refine dM (λi U H=>∃ u6,U=[some (.ref c),some (.ref C),some (.ref ML),some (.ref WL),some (.ref FL),some (.int (j:Int)),u6,none]/\Sep (tu o.t [.int o.i,.int o.j,.ref o.SP,.ref o.d]::ir u.w d p lv q.at_ q.x q.cs u.ws (bJ R c cs ws0 (L.map bt) (M.map bF)::pt FL (.lst ((F.take o.i.toNat++q.cs.take i++F.drop (o.i.toNat+i)).map V.int))::pt C (.lst (cs.map V.int))::pt ML (.lst (L.map bz))::pt WL (.lst (W.map cB))::T)) H) ⟨_,rfl,?_⟩ ?_ ?_
  ·rw[List.take_zero,append_nil,Nat.add_zero,take_append_drop];exact z8
  ·rintro i U H hi ⟨u6,rfl,zz⟩;have ei:q.cs[i]? =some q.cs[i]:=li hi;generalize q.cs[i]=v at ei;have lF:(F.take o.i.toNat++q.cs.take i++F.drop (o.i.toNat+i)).length=cs.length:=by
    rw[ci,ci,db,db,jp]
    omega
   right;refine aD (zz.get (by symm)) (aw nofun (by rw[sn];exact mV eu)) ?_;right;refine aD (zz.get (by symm)) (M9 (by rw[io,ei];rfl)) ?_;right;refine aD (zz.get (by symm)) (aw nofun (by rw[sn];exact rm eo)) ?_;right;refine dS (j:=o.i.toNat+i) (ys:=(F.take o.i.toNat++q.cs.take (i+1)++F.drop (o.i.toNat+(i+1))).map V.int) zz (by ac_rfl) (by rw[cI nofun (by rw[ce,lF];omega)];congr 1;omega) (by rw[<-CN nofun ei,List.map_set]) (λH5 z9=>?_);right;exact ⟨_,rfl,z9⟩
  ·rintro U H ⟨u6,rfl,zz⟩;right;refine ⟨_,_,rfl,?_⟩;rw[e4,show o.j.toNat=o.i.toNat+q.cs.length by omega];rw[take_of_length_le (re q.cs.length)] at zz;have z9:Sep (ir u.w d p lv u.at_ u.x u.cs u.ws (pt FL (.lst ((F.take o.i.toNat++q.cs++F.drop (o.i.toNat+q.cs.length)).map V.int))::pt C (.lst (cs.map V.int))::pt ML (.lst (L.map bz))::pt WL (.lst (W.map cB))::bJ R c cs ws0 (L.map bt) (M.map bF)::T)) H:=by
    rw[e1,e2,e3];exact zz.drop.sub (by ac_nf)
   have z10:=DX (q:=u) z9;subst eT;exact Sep.push (.t (.t (.t (.t (.t (aa (aj eu))))))) z10
 ·rintro U H ⟨u5,u6,rfl,zz⟩;right;rw[sn] at zz;have lM:M.length=L.length:=by have:=hK.fit.1;rw[ce] at this;omega
  refine ae dP zz (by symm) rfl rfl ?_;left;have z2:Sep (bJ R c cs ws0 (L.map bt) (M.map bF)::pt FL (.lst ((ky cs (L.map bt) M L.length).map V.int))::pt C (.lst (cs.map V.int))::pt ML (.lst (L.map bz))::pt WL (.lst (W.map cB))::(M.map (a8 R)++(W.map cR++(L.map aU++O)))) H:=zz.sub (by ac_nf);have z3:=Sep.mv (P:=[_]) (Δ:=[_,_,_,_]) (L:=M.map (a8 R)) z2;refine Aj ro nofun c60 nofun hK.fit z3 (λA H3 z4=>?_);rw[lM] at z4;clear zz z2 z3;have fl:=kj hK.fit L.length;generalize ky cs (L.map bt) M L.length=F at fl z4;have z5:Sep (pt A (.lst (F.map V.int))::bJ R c cs ws0 (L.map bt) (M.map bF)::pt FL (.lst (F.map V.int))::pt C (.lst (cs.map V.int))::pt ML (.lst (L.map bz))::pt WL (.lst (W.map cB))::(M.map (a8 R)++(W.map cR++(L.map aU++O)))) H3:=Sep.mv (P:=[_,_]) (Δ:=M.map (a8 R)) (L:=[_,_,_,_]) z4;clear z4;left;refine cw (t:="list") (xC z5.at) rfl ?_;right;refine um (vk (cs:=F) z5.at (z5.get (.t (.t .e)))) (by decide) (Sep.ne (z5.sub (Γ':=[pt A (.lst (F.map V.int)),pt FL (.lst (F.map V.int))]) (by ac_nf))) ?_;refine aK rfl ?_;right;refine l6 (xs:=F.map V.int) (by rw[ce];omega) (λD ys H=>ys=(sK ys.length true).map V.bl/\Sep (pt D (.lst ys)::pt A (.lst (F.map V.int))::bJ R c cs ws0 (L.map bt) (M.map bF)::pt FL (.lst (F.map V.int))::pt C (.lst (cs.map V.int))::pt ML (.lst (L.map bz))::pt WL (.lst (W.map cB))::(M.map (a8 R)++(W.map cR++(L.map aU++O)))) H) (λD ys H hI=>aR.of (hI.2.get (.t .e))) (λD hD=>⟨rfl,z5.new (o:=.lst []) hD⟩) (λD ys y H hy hI=>?_) (λD ys H hl hI=>?_)
  ·obtain ⟨e,hs⟩:=hI;have hyl:=(tz.mp hy).1;rw[ce] at hyl;rw[io] at hy;obtain ⟨i,hi,rfl⟩:=nw.mp hy;right;refine so (t:="int") nofun rfl ?_;refine oE.mk hs.at nofun ⟨?_,hs.set rfl⟩;rw[ci,ge,List.replicate_succ']
   conv=>lhs;rw[e]
   simp[tW]
  obtain ⟨e,hs⟩:=hI;left;refine A0 (K:=R.K) (bs:=sK ys.length true) rfl (e▸hs.at) ?_;rw[show (sK ys.length true).all id=true by simp];exact h _ (hs.sub (by ac_nf))
end
variable {W:List Wm}
section
variable {q:Mm}{o:Mb}{u:Wm}
abbrev BC (rs:List Rw)(n:Nat)(u:Wm):Wm:=⟨u.w,(rN rs u.ws n u.at_ u.x u.cs).at_,(rN rs u.ws n u.at_ u.x u.cs).x,(rN rs u.ws n u.at_ u.x u.cs).cs,u.ws⟩
def Cd (hk:5<=k)(h0:0<=u.at_)(h1:u.at_<=(o.S.map (·.2)).length)(hx:0<=u.x.l)(hl:u.cs.length=u.ws.length)(oR:∀ r ∈ o.S.map (·.2),Rw.ok r) (z:Sep (cR u::aU o::O) H)
  (h:∀ t H',Sep (pt t (.tup [.str (rW (o.S.map (·.2)) n (rN (o.S.map (·.2)) u.ws n u.at_ u.x u.cs)),.int ((rN (o.S.map (·.2)) u.ws n u.at_ u.x u.cs).n:Int)])::cR (BC (o.S.map (·.2)) n u)::aU o::O) H'->Q (.ref t) H'):ab tab R k kE [.ref o.SP,.ref u.w,.int (n:Int)] H Q E:=by
 obtain ⟨d,p,lv,z1⟩:=BV z;have z2:=mF (z1.pull (.t (.t (.t (.t .e)))));have z3:Sep (tu o.t [.int o.i,.int o.j,.ref o.SP,.ref o.d]::pt o.SP (.lst (o.S.map dD))::aq o.d o.x::ir u.w d p lv u.at_ u.x u.cs u.ws (o.S.reverse.map fM++O)) H:=Sep.mv (P:=[_,_,_]) (Δ:=o.S.reverse.map fM) (L:=[_,_,_,_]) (O:=O) z2;have z4:Sep (ir u.w d p lv u.at_ u.x u.cs u.ws (pt o.SP (.lst (o.S.map dD))::tu o.t [.int o.i,.int o.j,.ref o.SP,.ref o.d]::aq o.d o.x::(o.S.reverse.map fM++O))) H:=z3.sub (by ac_nf);have hs:=(kZ (S:=o.S) (O:=O) rfl oR).more (A:=aq o.d o.x);have hs:=hs.more (A:=tu o.t [.int o.i,.int o.j,.ref o.SP,.ref o.d]);refine II (n:=n) hk h0 h1 hx hl hs z4 (λt H2 z5=>h t H2 ?_);generalize hF:rN (o.S.map (·.2)) u.ws n u.at_ u.x u.cs=F at z5;have z6:Sep (tu o.t [.int o.i,.int o.j,.ref o.SP,.ref o.d]::pt o.SP (.lst (o.S.map dD))::aq o.d o.x::pt t (.tup [.str (rW (o.S.map (·.2)) n F),.int (F.n:Int)])::ir u.w d p lv F.at_ F.x F.cs u.ws (o.S.reverse.map fM++O)) H2:=z5.sub (by ac_nf);have z7:Sep (aU o::pt t (.tup [.str (rW (o.S.map (·.2)) n F),.int (F.n:Int)])::ir u.w d p lv F.at_ F.x F.cs u.ws O) H2:=yV (Sep.mv (P:=[_,_,_]) (Δ:=[_,_,_,_,_]) (L:=o.S.reverse.map fM) z6);have z8:Sep (ir u.w d p lv F.at_ F.x F.cs u.ws (aU o::pt t (.tup [.str (rW (o.S.map (·.2)) n F),.int (F.n:Int)])::O)) H2:=z7.sub (by ac_nf);subst hF;have z9:=fQ (f:=λe:Addr×Addr×Addr=>ir (BC (o.S.map (·.2)) n u).w e.1 e.2.1 e.2.2 (BC (o.S.map (·.2)) n u).at_ (BC (o.S.map (·.2)) n u).x (BC (o.S.map (·.2)) n u).cs (BC (o.S.map (·.2)) n u).ws []) (d,p,lv) z8;exact (z9.pull (.t (.t .e))).sub (O:=pt t _::cR (BC (o.S.map (·.2)) n u)::aU o::O) (by ac_nf)
def c4 {β:Type}{f:α->β}{l:List α}{i:Nat}{x y:α}(h:l[i]? =some x)(e:f y=f x):(l.set i y).map f=l.map f:=by
 rw[List.map_set,e];exact set_same (by rw[io,h];rfl)
def qh.set {cs:List Int}{i:Nat}{q':Mm}{u':Wm}(h:qh cs L M W)(eq:M[i]? =some q)(eu:W[i]? =some u)(e1:vq u'=sG q')(e2:q'.rs=q.rs)(e3:sC q')(e4:q'.cs.length=q.cs.length):qh cs L (M.set i q') (W.set i u') where
 ws:=by rw[List.map_set,List.map_set,h.ws,e1]
 rs:=by rw[c4 (f:=λq:Mm=>q.rs) eq e2];exact h.rs
 ok:=λa ha=>by
  rcases mem_or_eq_of_mem_set ha with ha|rfl
  ·exact h.ok a ha
  ·exact e3
 fit:=⟨by rw[length_set];exact h.fit.1,λj p a e5 e6=>by
  by_cases hj:i=j
  ·subst hj;rw[getElem?_set_self (tz.mp eq).1] at e6;cases e6;rw[e4];exact h.fit.2 i p q e5 eq
  ·rw[getElem?_set_ne hj] at e6;exact h.fit.2 j p a e5 e6⟩
end
abbrev Dr:mQ->mQ
 | .cons (.for _ _ b) _=>b
 |_=>.nil
def Hx {t t2:Addr}{w:Str}(h1:H t=some (.tup [.str w,.int i]))(h2:H t2=some (.tup [.str w,.int i])):gF R.K H 2 (.ref t) (.ref t2) true:=
 ui (n:=0) h1 h2 rfl λj x y f1 f2=>by
  rw[f1] at f2;cases f2;rcases j with _|_|j
  ·cases f1;exact fe (t:="str") rfl
  ·cases f1;exact fe (t:="int") rfl
  ·simp at f1
section
variable {o:Mb}{u:Wm}{d p lv:Addr}{at_:Int}{x:Bx}{cs:List Int}{ws:List Str}
noncomputable abbrev LI (o:Mb)(O:List aB):List aB:=tu o.t [.int o.i,.int o.j,.ref o.SP,.ref o.d]::aq o.d o.x::(o.S.reverse.map fM++O)
def Jq (z:Sep (cR u::aU o::O) H):∃ d p lv,Sep (ir u.w d p lv u.at_ u.x u.cs u.ws (pt o.SP (.lst (o.S.map dD))::LI o O)) H:=by
 obtain ⟨d,p,lv,z1⟩:=BV z;have z2:=mF (z1.pull (.t (.t (.t (.t .e)))));have z3:Sep (tu o.t [.int o.i,.int o.j,.ref o.SP,.ref o.d]::pt o.SP (.lst (o.S.map dD))::aq o.d o.x::ir u.w d p lv u.at_ u.x u.cs u.ws (o.S.reverse.map fM++O)) H:=Sep.mv (P:=[_,_,_]) (Δ:=o.S.reverse.map fM) (L:=[_,_,_,_]) (O:=O) z2;exact ⟨d,p,lv,z3.sub (by ac_nf)⟩
def IL {w:Addr}(z:Sep (ir w d p lv at_ x cs ws (pt o.SP (.lst (o.S.map dD))::LI o O)) H):Sep (cR ⟨w,at_,x,cs,ws⟩::aU o::O) H:=by
 have z6:Sep (tu o.t [.int o.i,.int o.j,.ref o.SP,.ref o.d]::pt o.SP (.lst (o.S.map dD))::aq o.d o.x::ir w d p lv at_ x cs ws (o.S.reverse.map fM++O)) H:=z.sub (by ac_nf);have z7:Sep (aU o::ir w d p lv at_ x cs ws O) H:=yV (Sep.mv (P:=[_,_,_]) (Δ:=[_,_,_,_]) (L:=o.S.reverse.map fM) z6);have z8:Sep (ir w d p lv at_ x cs ws (aU o::O)) H:=z7.sub (by ac_nf);exact DX (q:=⟨w,at_,x,cs,ws⟩) z8
def AQ (oR:∀ r ∈ o.S.map (·.2),Rw.ok r):gh (LI o O) (o.S.map dD) (o.S.map (·.2)):=((kZ (S:=o.S) (O:=O) rfl oR).more (A:=aq o.d o.x)).more (A:=tu o.t [.int o.i,.int o.j,.ref o.SP,.ref o.d])
abbrev HW (rs:List Rw)(u:Wm):Wm:=⟨u.w,(mS rs u.at_ u.x u.cs u.ws).at_,(mS rs u.at_ u.x u.cs u.ws).x,(mS rs u.at_ u.x u.cs u.ws).cs,u.ws⟩
def qu (hk:4<=k)(h0:0<=u.at_)(h1:u.at_<=(o.S.map (·.2)).length)(hx:0<=u.x.l)(hl:u.cs.length=u.ws.length)(oR:∀ r ∈ o.S.map (·.2),Rw.ok r) (z:Sep (cR u::aU o::O) H)
  (h:∀ H',Sep (cR (HW (o.S.map (·.2)) u)::aU o::O) H'->Q (.str (mS (o.S.map (·.2)) u.at_ u.x u.cs u.ws).w) H'):ab tab R k jU [.ref o.SP,.ref u.w] H Q E:=by
 obtain ⟨d,p,lv,z1⟩:=Jq z;have hs:=AQ (O:=O) oR;exact zL hk h0 (by rw[hs.1];exact h1) hx hl hs z1 (λH2 z5=>h H2 (IL z5))
end
abbrev nV (i:Nat):V:=.int (i:Int)
abbrev stM (M:List Mm)(i:Nat):List Mm:=match M[i]? with
 |some q=>M.set i (Br q)
 |none=>M
abbrev HZ (M:List Mm)(i:Nat):Str:=match M[i]? with
 |some q=>(mS q.rs q.at_ q.x q.cs q.ws).w
 |none=>""
abbrev ku:List Mm->List Nat->List Mm
 |M,[]=>M
 |M,i::r=>ku (stM M i) r
abbrev qg:List Mm->List Nat->List Str
 |_,[]=>[]
 |M,i::r=>HZ M i::qg (stM M i) r
def lS {i:Nat}:∀ {a:List Nat}{M:List Mm},ku M (a++[i])=stM (ku M a) i
 | [],M=>rfl
 |j::a,M=>lS (a:=a) (M:=stM M j)
def lY {i:Nat}:∀ {a:List Nat}{M:List Mm},qg M (a++[i])=qg M a++[HZ (ku M a) i]
 | [],M=>rfl
 |j::a,M=>congrArg (HZ M j::·) (lY (a:=a) (M:=stM M j))
def uw (h:sC q):sC (Br q):=let ⟨g0,g1,_⟩:=vY (x:=q.x) (cs:=q.cs) (ws:=q.ws) h.1 h.2.1 h.2.2;⟨g0,g1,h.2.2⟩
def A6 {i:Nat}(ok:∀ q ∈ M,sC q):(stM M i).map bF=M.map bF/\∀ q ∈ stM M i,sC q:=by
 unfold stM;cases e:M[i]? with
 |none=>exact ⟨rfl,ok⟩
 |some q=>
  refine ⟨c4 e rfl,λa ha=>?_⟩;rcases mem_or_eq_of_mem_set ha with ha|rfl
  ·exact ok a ha
  ·exact uw (ok q (cr e))
def sR:∀ {a:List Nat}{M:List Mm},(∀ q ∈ M,sC q)->(ku M a).map bF=M.map bF/\∀ q ∈ ku M a,sC q
 | [],M,h=>⟨rfl,h⟩
 |j::a,M,h=>let ⟨g1,g2⟩:=sR (a:=a) (A6 (i:=j) h).2;⟨g1.trans (A6 h).1,g2⟩
def Io {c Ol:Addr}{cs:List Int}{P:List (Int×Int)}{is:List Nat}(ro:Ro K R)(hk:13<=k)(hl:is.length<=300)(hi:∀ i ∈ is,i<M.length) (ok:∀ q ∈ M,sC q) (z:Sep (pt Ol (.lst (is.map nV))::bJ R c cs ws P (M.map bF)::(M.map (a8 R)++O)) H)
  (h:∀ D H',Sep (pt D (.lst ((qg M is).map V.str))::pt Ol (.lst (is.map nV))::bJ R c cs ws P (M.map bF)::((ku M is).map (a8 R)++O)) H'->Q (.ref D) H'):ab tab R k xD [.ref c,.ref Ol] H Q E:=by
 refine wc (d:=nS) nofun rfl rfl ?_;right;refine c8 (xs:=is.map nV) (λj U H=>∃ u2,U=[some (.ref c),some (.ref Ol),u2]/\Sep (pt Ol (.lst (is.map nV))::bJ R c cs ws P (M.map bF)::(M.map (a8 R)++O)) H) ⟨none,rfl,z⟩ ?_ ?_ ?_
 ·rintro j U H ⟨u2,rfl,zz⟩;exact aR.of zz.at
 ·rintro j x U H hx ⟨u2,rfl,zz⟩;rw[io] at hx;obtain ⟨i,ei,rfl⟩:=nw.mp hx;right;refine ae dP zz (.t .e) rfl rfl ?_;left;refine fg nofun (by rw[ce];exact hi i (cr ei)) zz (.t .e) ?_;right;exact ⟨_,rfl,zz⟩
 ·rintro U H ⟨u2,rfl,zz⟩;right;refine l6 (xs:=is.map nV) (by rw[ce];omega) (λD ys H=>ys=(qg M (is.take ys.length)).map V.str/\Sep (pt D (.lst ys)::pt Ol (.lst (is.map nV))::bJ R c cs ws P (M.map bF)::((ku M (is.take ys.length)).map (a8 R)++O)) H) (λD ys H hI=>aR.of (hI.2.get (.t .e))) (λD hD=>⟨rfl,zz.new (o:=.lst []) hD⟩) (λD ys y H hy hI=>?_) (λD ys H hl2 hI=>?_)
  ·obtain ⟨e1,z2⟩:=hI;rw[io] at hy;obtain ⟨i,ei,rfl⟩:=nw.mp hy;have hj:=(tz.mp ei).1;obtain ⟨g1,g2⟩:=sR (a:=is.take ys.length) ok;have hlen:(ku M (is.take ys.length)).length=M.length:=by
    have:=congrArg List.length g1
    rwa [ce,ce] at this
   have eq:(ku M (is.take ys.length))[i]? =some ((ku M (is.take ys.length))[i]'(by rw[hlen];exact hi i (cr ei))):=li _;generalize (ku M (is.take ys.length))[i]'(by rw[hlen];exact hi i (cr ei))=q at eq;have es:ku M (is.take (ys.length+1))=(ku M (is.take ys.length)).set i (Br q):=by
    rw[cA ei,lS];unfold stM;rw[eq]
   have ew:qg M (is.take (ys.length+1))=qg M (is.take ys.length)++[(mS q.rs q.at_ q.x q.cs q.ws).w]:=by
    rw[cA ei,lY];unfold HZ;rw[eq]
   right;refine ae dP z2 (.t (.t .e)) rfl rfl ?_;left;have z3:Sep (a8 R q::bJ R c cs ws P (M.map bF)::pt D (.lst ys)::pt Ol (.lst (is.map nV))::(((ku M (is.take ys.length)).eraseIdx i).map (a8 R)++O)) H:=(z2.pull (.t (.t (.t (aj eq))))).sub (by ac_nf);refine vw (i:=i) ro nofun (by rw[<-g1,io,eq];rfl) (g2 q (cr eq)) z3 (λH2 z4=>?_);refine oE.mk (z4.get (by symm)) nofun ⟨?_,?_⟩
   ·rw[ci,ge,ew,f8,<-e1]
    rfl
   ·have z5:=(z4.pull (A:=pt D (.lst ys)) (by symm)).set (o':=.lst (ys++[.str (mS q.rs q.at_ q.x q.cs q.ws).w])) rfl;rw[ci,ge,es];exact Sep.push (.t (.t (.t (cG eq)))) (z5.sub (Γ':=a8 R (Br q)::pt D _::pt Ol _::bJ R c cs ws P (M.map bF)::_) (by ac_nf))
  ·obtain ⟨e1,z2⟩:=hI;rw[ce] at hl2;rw[hl2,take_length] at e1 z2;right;rw[e1] at z2;exact h D H z2
def qE (z:Sep (a8 R q::O) H):0<=q.x.l/\q.cs.length=q.ws.length/\q.cs.length<=60:=by
 obtain ⟨l,s,b,L,eL,z1⟩:=wj z;exact ⟨(lC z1 (.t (.t .e))).2.2.1.1,(cJ z1 (.t .e)).1,(cJ z1 (.t .e)).2.2.1⟩
section
variable {m l s b:Addr}{at_:Int}{ds:List V}{cs:List Int}{ws:List Str}
def zw {j:Int}{wd:Str}(ro:Ro K R)(hk:4<=k)(h0:0<=i)(h1:i<=j)(h2:j<=ws.length)(hw:dH wd=true)(z:Sep (k8 R m l s b at_ ds::aS R s cs ws::O) H)(q:∀ H',Sep (k8 R m l s b at_ ds::aS R s cs (bR wd ws i.toNat (j-i).toNat)::O) H'->Q .non H'):ab tab R k dY [.ref m,.int i,.int j,.str wd] H Q E:=by
 refine wc (d:=d9) nofun rfl rfl ?_;obtain ⟨dx,z1⟩:=wz z;right;refine ae bp z (.t .e) rfl rfl ?_;right;refine aW (vs':=[_,_,_,_]) rfl ?_;refine qG ro nofun z (.t .e) h0 h1 h2 hw (λH1 z2=>?_);right;exact q H1 z2
end
def wJ {b:Addr}{j i2 j2:Int}(hk:1<=k)(z:Sep O H)(e1:H a=some (.tup [.int i,.int j]))(e2:H b=some (.tup [.int i2,.int j2]))(hd:max i i2<min j j2)(q:∀ t H',Sep (tu t [.int (max i i2),.int (min j j2)]::O) H'->Q (.ref t) H'):ab tab R k qy [.ref a,.ref b] H Q E:=by
 refine wc (d:=l9) nofun rfl rfl ?_;right;refine bH e1 rfl ?_;right;refine bH e2 rfl ?_;right;refine bH e1 rfl ?_;right;refine bH e2 rfl ?_;right;refine ax (λh=>?_) (λh=>absurd hd nofun);right;rename_i t H2 z2;exact q t H2 z2.toT
abbrev zZ (lo hi:Int)(wd:Str)(p:Int×Int)(q:Mm):Mm:=⟨q.m,q.at_,q.rs,q.x,q.cs,bR wd q.ws (max lo p.1-p.1).toNat (min hi p.2-max lo p.1).toNat⟩
abbrev gL (lo hi:Int)(wd:Str)(P:List (Int×Int))(M:List Mm):Nat->List Mm
 |0=>M
 |n+1=>match P[n]?,M[n]? with
  |some p,some q=>(gL lo hi wd P M n).set n (zZ lo hi wd p q)
  |_,_=>gL lo hi wd P M n
section
variable {lo hi:Int}{wd:Str}{P:List (Int×Int)}{M:List Mm}
def lZ:∀ {n:Nat}{i:Nat},(gL lo hi wd P M n)[i]? =if i<n then (match P[i]?,M[i]? with|some p,some q=>some (zZ lo hi wd p q)|_,_=>M[i]?) else M[i]?
 |0,i=>by rw[if_neg (Nat.not_lt_zero _)];rfl
 |n+1,i=>by
  have ih:=lZ (n:=n) (i:=i);show (match P[n]?,M[n]? with
   |some p,some q=>(gL lo hi wd P M n).set n (zZ lo hi wd p q)
   |_,_=>gL lo hi wd P M n)[i]? =_
  have hlen:(gL lo hi wd P M n).length=M.length:=lvN_len n
  by_cases e:i=n
  ·subst e;rw[if_pos (Nat.lt_succ_self _)];rw[if_neg (Nat.lt_irrefl _)] at ih;cases hp:P[i]? with
   |none=>exact ih
   |some p=>
    cases hq:M[i]? with
    |none=>
     rw[hq] at ih;exact ih
    |some q=>
     dsimp only;rw[getElem?_set_self (by rw[hlen];exact (tz.mp hq).1)]
  ·have e2:(i<n+1)=(i<n):=propext ⟨λh=>by omega,λh=>by omega⟩;simp only[e2];rw[<-ih];cases P[n]? with
   |none=>rfl
   |some p=>
    cases M[n]? with
    |none=>rfl
    |some q=>exact getElem?_set_ne (λz=>e z.symm)
where
 lvN_len:∀ n:Nat,(gL lo hi wd P M n).length=M.length
 |0=>rfl
 |n+1=>by
  show (match P[n]?,M[n]? with
   |some p,some q=>(gL lo hi wd P M n).set n (zZ lo hi wd p q)
   |_,_=>gL lo hi wd P M n).length=_
  cases P[n]? with
  |none=>exact lvN_len n
  |some p=>
   cases M[n]? with
   |none=>exact lvN_len n
   |some q=>
    dsimp only;rw[length_set];exact lvN_len n
def DR:∀ {n:Nat},(gL lo hi wd P M n).map bF=M.map bF
 |n=>by
  apply List.ext_getElem?;intro i;rw[io,io,lZ]
  split
  ·cases P[i]? with
   |none=>rfl
   |some p=>
    cases M[i]? with
    |none=>rfl
    |some q=>rfl
  ·rfl
def AB {j:Int}(ro:Ro K R)(hk:4<=k)(h0:0<=i)(h1:i<=j)(h2:j<=q.ws.length)(hw:dH wd=true)(z:Sep (a8 R q::O) H)
  (h:∀ H',Sep (a8 R ⟨q.m,q.at_,q.rs,q.x,q.cs,bR wd q.ws i.toNat (j-i).toNat⟩::O) H'->Q .non H'):ab tab R k dY [.ref q.m,.int i,.int j,.str wd] H Q E:=by
 obtain ⟨l,s,b,L,eL,z1⟩:=wj z;exact zw ro hk h0 h1 h2 hw z1 (λH2 z2=>h H2 (xR (q:=⟨q.m,q.at_,q.rs,q.x,q.cs,bR wd q.ws i.toNat (j-i).toNat⟩) eL z2))
def yY {c:Addr}{cs:List Int}(ro:Ro K R)(hk:6<=k)(h0:0<=lo)(h1:lo<=hi)(h2:hi<=ws.length)(hw:dH wd=true)(n1:M.length<=4)(f:Ds cs.length P M)(z:Sep (bJ R c cs ws P (M.map bF)::(M.map (a8 R)++O)) H)
  (h:∀ H',Sep (bJ R c cs (bR wd ws lo.toNat (hi-lo).toNat) P (M.map bF)::((gL lo hi wd P M M.length).map (a8 R)++O)) H'->Q .non H'):ab tab R k oM [.ref c,.int lo,.int hi,.str wd] H Q E:=by
 refine wc (d:=iG) nofun rfl rfl ?_;obtain ⟨dx,gr,pl,ml,L,eL,z1⟩:=CO z;have hlL:L.length=M.length:=by
  have:=congrArg List.length eL;rw[ce] at this;rw[this];exact f.1
 clear z;right;refine ae bp z1 (by symm) rfl rfl ?_;left;refine qG ro nofun z1 (by ac_rfl) h0 h1 h2 hw (λH2 z2=>?_);clear z1;right;refine D5 (tp1:=false) (tp2:=false) (aR.of (z2.get (by symm))) (aR.of (z2.get (by symm))) ?_;refine pe (xs:=L.map cq) (ys:=M.map bF) (λj U H=>∃ u v w,U=[some (.ref c),some (.int lo),some (.int hi),some (.str wd),u,v,w]/\Sep (pt c (.ins (R.cad bQ) dx [("ground",.ref gr),("parts",.ref pl),("machines",.ref ml)])::pt dx (.own c)::pt pl (.lst (L.map cq))::pt ml (.lst (M.map bF))::aS R gr cs (bR wd ws lo.toNat (hi-lo).toNat)::(L.map dc++((gL lo hi wd P M j).map (a8 R)++O))) H) (by rw[ce,ce,hlL]) ⟨none,none,none,rfl,z2⟩ ?_ ?_ ?_
 ·rintro j U H ⟨u,v,w,rfl,zz⟩;exact ⟨aR.of (zz.get (by symm)),aR.of (zz.get (by symm))⟩
 ·rintro j x y T U H hx hy ⟨u,v,w,rfl,zz⟩ hT;rw[io] at hx hy;obtain ⟨pp,ep,rfl⟩:=nw.mp hx;obtain ⟨q,eq,rfl⟩:=nw.mp hy;have eP:P[j]? =some (ij pp):=by rw[<-eL,io,ep];rfl
  obtain ⟨f0,f1,f2⟩:=f.2 j _ q eP eq;have f0:0<=pp.i:=f0;have f1:pp.j<=(cs.length:Int):=f1;have f2:pp.i+(q.cs.length:Int)=pp.j:=f2;have eq2:(gL lo hi wd P M j)[j]? =some q:=by rw[lZ,if_neg (Nat.lt_irrefl _)];exact eq
  have e3:gL lo hi wd P M (j+1)=(gL lo hi wd P M j).set j (zZ lo hi wd (ij pp) q):=by
   show (match P[j]?,M[j]? with
    |some p,some q=>(gL lo hi wd P M j).set j (zZ lo hi wd p q)
    |_,_=>gL lo hi wd P M j)=_
   rw[eP,eq]
  have hs4:=zz.gZ (xs:=[cq pp,bF q]) hT;obtain ⟨Δ1,p1⟩:=bh (f:=dc) (cr ep);left;refine ⟨T,_,rfl,.inl (aX.of hs4.atT),rfl,?_⟩;generalize upd H T _=H4 at hs4⊢;have z5:=hs4.drop;clear hs4 zz;have hlq:=(qE (z5.pull (.t (.t (.t (.t (.t (aa (aj eq2)))))))) ).2.1;right;rename_i t1 H6 z6;clear z5;have ht:H6 pp.p=some (.tup [.int pp.i,.int pp.j]):=z6.ef (.t (.t (.t (.t (.t (.t (p1 _)))))))
  by_cases hd:max lo pp.i<min hi pp.j
  ·refine wJ nofun z6 z6.at ht hd (λt2 H7 z7=>?_);have ht:H7 pp.p=some (.tup [.int pp.i,.int pp.j]):=z7.ef (.t (.t (.t (.t (.t (.t (.t (p1 _))))))));right;refine bc ?_;refine aK rfl ?_;right;refine ae iu z7 (.t (.t (.t (.t (.t (.t (.t (aa (aj eq2))))))))) rfl rfl ?_;right;refine bH ht rfl ?_;right;refine bH ht rfl ?_;right;refine AB ro nofun nofun nofun (by rw[<-hlq];omega) hw (z7.pull (.t (.t (.t (.t (.t (.t (.t (aa (aj eq2)))))))))) (λH8 z8=>?_);right;refine ⟨_,_,_,rfl,?_⟩;rw[e3];have ea:(min hi pp.j-pp.i-(max lo pp.i-pp.i)).toNat=(min hi pp.j-max lo pp.i).toNat:=by
    congr 1
    omega
   rw[ea] at z8;have z9:Sep (a8 R (zZ lo hi wd (ij pp) q)::_) H8:=z8;have z10:=Sep.push (.t (.t (.t (.t (.t (.t (.t (aa (cG eq2)))))))) ) z9;exact z10.drop.drop
  ·refine mW nofun z6 z6.at ht nofun ?_;right;refine bc ?_;refine ak rfl ?_;right;refine ⟨_,_,_,rfl,?_⟩;have e5:(min hi (ij pp).2-max lo (ij pp).1).toNat=0:=by
    show (min hi pp.j-max lo pp.i).toNat=0
    omega
   have e4:zZ lo hi wd (ij pp) q=q:=by
    unfold zZ;rw[e5]
    rfl
   rw[e3,e4,set_same eq2];exact z6.drop
 ·rintro U H ⟨u,v,w,rfl,zz⟩;right;rw[ce] at zz;exact h H (GN eL (by rw[<-hlL];exact zz))
end
section
variable {h c C ML WL:Addr}{cs:List Int}{gw:List Str}{L:List Mb}{M:List Mm}{W:List Wm}{lo hi:Int}{wd:Str}
def qh.lv {o:Mb}{u:Wm}{W':List Wm}(hK:qh cs L (gL lo hi wd (L.map bt) M n) W')(eo:L[n]? =some o)(eq:M[n]? =some q)(eu:W'[n]? =some u)(ews:vq u=sG q):
  qh cs L (gL lo hi wd (L.map bt) M (n+1)) (W'.set n ⟨u.w,u.at_,u.x,u.cs,bR wd u.ws (max lo o.i-o.i).toNat (min hi o.j-max lo o.i).toNat⟩):=by
 have eP:(L.map bt)[n]? =some (o.i,o.j):=by rw[io,eo];rfl
 have eq2:(gL lo hi wd (L.map bt) M n)[n]? =some q:=by rw[lZ,if_neg (Nat.lt_irrefl _)];exact eq
 have e3:gL lo hi wd (L.map bt) M (n+1)=(gL lo hi wd (L.map bt) M n).set n (zZ lo hi wd (o.i,o.j) q):=by
  show (match (L.map bt)[n]?,M[n]? with
   |some p,some q=>(gL lo hi wd (L.map bt) M n).set n (zZ lo hi wd p q)
   |_,_=>gL lo hi wd (L.map bt) M n)=_
  rw[eP,eq]
 have e1:u.at_=q.at_:=congrArg (·.1) ews;have e2:u.x=q.x:=congrArg (·.2.1) ews;have e3':u.cs=q.cs:=congrArg (·.2.2.1) ews;have e4:u.ws=q.ws:=congrArg (·.2.2.2) ews;rw[e3];refine hK.set eq2 eu ?_ rfl (hK.ok q (cr eq2)) rfl;show (u.at_,u.x,u.cs,bR wd u.ws (max lo o.i-o.i).toNat (min hi o.j-max lo o.i).toNat)=(q.at_,q.x,q.cs,bR wd q.ws (max lo o.i-o.i).toNat (min hi o.j-max lo o.i).toNat);rw[e1,e2,e3',e4]
def yo (ro:Ro K R)(hk:8<=k)(h0:0<=lo)(h1:lo<=hi)(h2:hi<=gw.length)(hw:dH wd=true)(g60:gw.length<=60)(c60:cs.length<=60)(n1:L.length<=4)(hlM:∀ m ∈ M,m.cs.length=m.ws.length) (hK:qh cs L M W) (z:Sep (bJ R c cs gw (L.map bt) (M.map bF)::(M.map (a8 R)++(pt ML (.lst (L.map bz))::pt WL (.lst (W.map cB))::(W.map cR++(L.map aU++O))))) H)
  (q:∀ W' H',qh cs L (gL lo hi wd (L.map bt) M M.length) W'->W'.map cB=W.map cB->Sep (bJ R c cs (bR wd gw lo.toNat (hi-lo).toNat) (L.map bt) (M.map bF)::((gL lo hi wd (L.map bt) M M.length).map (a8 R)++(pt ML (.lst (L.map bz))::pt WL (.lst (W.map cB))::(W'.map cR++(L.map aU++O))))) H'->Q (.bl true) H'):ab tab R k pL [.ref c,.ref ML,.ref WL,.int lo,.int hi,.str wd] H Q E:=by
 have lM:L.length=M.length:=by have:=hK.fit.1;rwa [ce] at this
 refine wc (d:=iK) nofun rfl rfl ?_;right;refine ae dP z .e rfl rfl ?_;left;refine yY ro nofun h0 h1 h2 hw nofun hK.fit z (λH1 z1=>?_);clear z;have z2:=z1.pull (A:=pt ML (.lst (L.map bz))) (.t (aa .e));clear z1;right;rw[ce];refine dM (λj U H=>∃ u7 u8 W',U=[some (.ref c),some (.ref ML),some (.ref WL),some (.int lo),some (.int hi),some (.str wd),some .non,u7,u8]/\qh cs L (gL lo hi wd (L.map bt) M j) W'/\W'.map cB=W.map cB/\Sep (pt ML (.lst (L.map bz))::bJ R c cs (bR wd gw lo.toNat (hi-lo).toNat) (L.map bt) (M.map bF)::((gL lo hi wd (L.map bt) M M.length).map (a8 R)++(pt WL (.lst (W.map cB))::(W'.map cR++(L.map aU++O))))) H) ⟨none,none,W,rfl,hK,rfl,z2⟩ ?_ ?_
 ·rintro j U H hj ⟨u7,u8,W',rfl,hK',ew,zz⟩;obtain ⟨o,q',u,eo,eq',eu,ews,ers,okq,f0,f1,f2⟩:=hK'.at (i:=j) hj;rw[lZ,if_neg (Nat.lt_irrefl _)] at eq';rw[Int.zero_add];have e1:u.at_=q'.at_:=congrArg (·.1) ews;have e4:u.ws=q'.ws:=congrArg (·.2.2.2) ews;have hcs:=hlM q' (cr eq');have z3:=zz.pull (A:=cR u) (.t (.t (aa (.t (aj eu)))));have z4:=z3.pull (A:=aU o) (.t (.t (.t (aa (.t (aa (aj eo)))))));generalize eT:(gL lo hi wd (L.map bt) M M.length).map (a8 R)++(pt WL (.lst (W.map cB))::((W'.eraseIdx j).map cR++((L.eraseIdx j).map aU++O)))=T at z4;have hWL:∀ {H':Hp}{A1 A2 A3 A4:aB},True:=trivial;have i1:=aw (i:=(j:Int)) nofun (by rw[sn];exact rm eo);have i2:kG (W.map cB) (j:Int)=some (.ref u.w):=aw (i:=(j:Int)) nofun (by rw[sn,<-ew];exact mV eu);have pW:ag (pt WL (.lst (W.map cB))) T ((gL lo hi wd (L.map bt) M M.length).map (a8 R)++((W'.eraseIdx j).map cR++((L.eraseIdx j).map aU++O))):=by
   rw[<-eT];exact aa .e
  obtain ⟨d,p,lv,z5⟩:=BV (z4.pull (.t .e));have z6:Sep (ir u.w d p lv u.at_ u.x u.cs u.ws (aU o::pt ML (.lst (L.map bz))::bJ R c cs (bR wd gw lo.toNat (hi-lo).toNat) (L.map bt) (M.map bF)::T)) H:=z5;clear zz z3 z4 z5 hWL;have ht:=(mF (z6.pull (.t (.t (.t (.t .e)))))).atT;right;refine aD (z6.get (by symm)) i1 ?_;right;refine bH ht rfl ?_;right;refine aD (z6.get (by symm)) i1 ?_;right;refine bH ht rfl ?_;right;refine dM (λi U H=>∃ u8,U=[some (.ref c),some (.ref ML),some (.ref WL),some (.int lo),some (.int hi),some (.str wd),some .non,some (.int (j:Int)),u8]/\Sep (ir u.w d p lv u.at_ u.x u.cs (bR wd u.ws (max lo o.i-o.i).toNat i) (aU o::pt ML (.lst (L.map bz))::bJ R c cs (bR wd gw lo.toNat (hi-lo).toNat) (L.map bt) (M.map bF)::T)) H) ⟨_,rfl,z6⟩ ?_ ?_
  ·rintro i U H hi2 ⟨u8,rfl,y⟩;have ht:=(mF (y.pull (.t (.t (.t (.t .e)))))).atT;right;refine aD (y.get (.t (.t (.t (.t (.t (.t (.t pW)))))))) i2 ?_;right;refine aD (y.get (by symm)) i1 ?_;right;refine bH ht rfl ?_;have hlen:(bR wd u.ws (max lo o.i-o.i).toNat i).length=u.ws.length:=eK i;have hq:(u.ws.length:Int)=o.j-o.i:=by
    rw[e4,<-hcs]
    omega
   have ei:(max lo o.i+(i:Int)-o.i).toNat=(max lo o.i-o.i).toNat+i:=by omega
   left;refine dS (i:=max lo o.i+(i:Int)-o.i) y (.t (.t (.t .e))) (cI nofun (by rw[ce,hlen];omega)) rfl (λH4 y4=>?_);rw[ei,<-List.map_set] at y4;exact ⟨_,rfl,y4⟩
  ·rintro U H ⟨u8,rfl,y⟩;refine ⟨_,_,W'.set j ⟨u.w,u.at_,u.x,u.cs,bR wd u.ws (max lo o.i-o.i).toNat (min hi o.j-max lo o.i).toNat⟩,rfl,hK'.lv eo eq' eu ews,Eq.trans (c4 (f:=cB) eu (by rfl)) ew,?_⟩;have y1:=DX (q:=⟨u.w,u.at_,u.x,u.cs,bR wd u.ws (max lo o.i-o.i).toNat (min hi o.j-max lo o.i).toNat⟩) y;subst eT;have y2:=Sep.push (.t (.t (.t (aa (.t (aa (aj eo))))))) (y1.pull (A:=aU o) (.t .e));exact Sep.push (.t (.t (aa (.t (cG eu))))) y2
 ·rintro U H ⟨u7,u8,W',rfl,hK',ew,zz⟩;right;refine gK ?_;rw[lM] at hK';exact q W' H hK' ew (Sep.push (.t (aa .e)) zz)
end
section
variable {b:Mm}{u:Wm}
def Bm (e:vq u=sG b)(er:b.rs=rs):vq (HW rs u)=sG (Br b)/\(mS rs u.at_ u.x u.cs u.ws).w=(mS b.rs b.at_ b.x b.cs b.ws).w:=by
 have e1:u.at_=b.at_:=congrArg (·.1) e;have e2:u.x=b.x:=congrArg (·.2.1) e;have e3:u.cs=b.cs:=congrArg (·.2.2.1) e;have e4:u.ws=b.ws:=congrArg (·.2.2.2) e;subst er;refine ⟨?_,by rw[e1,e2,e3,e4]⟩;show ((mS b.rs u.at_ u.x u.cs u.ws).at_,(mS b.rs u.at_ u.x u.cs u.ws).x,(mS b.rs u.at_ u.x u.cs u.ws).cs,u.ws)=((mS b.rs b.at_ b.x b.cs b.ws).at_,(mS b.rs b.at_ b.x b.cs b.ws).x,(mS b.rs b.at_ b.x b.cs b.ws).cs,b.ws);rw[e1,e2,e3,e4]
end
abbrev cg (R:Rt)(h c C ML WL:Addr)(cs:List Int)(gw:List Str)(Δ:List aB)(L:List Mb)(N:Int)(H:Hp):Prop:=∃ (M:List Mm) (W:List Wm),qh cs L M W/\Sep (pt C (.lst (cs.map V.int))::pt ML (.lst (L.map bz))::pt WL (.lst (W.map cB))::bJ R c cs gw (L.map bt) (M.map bF)::hand h N::(M.map (a8 R)++(W.map cR++(L.map aU++Δ)))) H
noncomputable abbrev yp (R:Rt)(h c C ML WL:Addr)(cs:List Int)(gw:List Str)(L:List Mb)(ms ws:List V)(o:Mb)(b:Mm)(u:Wm)(N:Int)(T:List aB):List aB:=a8 R b::bJ R c cs gw (L.map bt) ms::cR u::aU o::pt C (.lst (cs.map V.int))::pt ML (.lst (L.map bz))::pt WL (.lst ws)::hand h N::T
section
variable {h c C ML WL:Addr}{cs:List Int}{gw:List Str}{Δ:List aB}{L:List Mb}{N:Int}{D:Ends}{E:St->XK}{u0 u4 u5 u6 u9 u10:Option V}
def vo {i:Nat}(hi:i<L.length)(z:cg R h c C ML WL cs gw Δ L N H):∃ o b u ms ws T,L[i]? =some o/\ms[i]? =some (.ref b.m)/\ws[i]? =some (.ref u.w)/\sC b/\vq u=sG b/\b.rs=o.S.map (·.2)/\(u.at_=b.at_/\u.x=b.x/\u.cs=b.cs/\u.ws=b.ws)/\Sep (yp R h c C ML WL cs gw L ms ws o b u N T) H/\∀ b' u' N' H',b'.m=b.m->u'.w=u.w->vq u'=sG b'->b'.rs=b.rs->sC b'->b'.cs.length=b.cs.length->Sep (yp R h c C ML WL cs gw L ms ws o b' u' N' T) H'->cg R h c C ML WL cs gw Δ L N' H':=by
 obtain ⟨M,W,hK,z⟩:=z;obtain ⟨o,b,u,eo,eb,eu,ews,ers,okb,f0,f1,f2⟩:=hK.at (i:=i) hi;have z2:=z.pull (.t (.t (.t (.t (.t (aj eb))))));have z3:=z2.pull (.t (.t (.t (.t (.t (.t (aa (aj eu))))))));have z4:=z3.pull (.t (.t (.t (.t (.t (.t (.t (aa (aa (aj eo))))))))));generalize eT:(M.eraseIdx i).map (a8 R)++((W.eraseIdx i).map cR++((L.eraseIdx i).map aU++Δ))=T at z4;refine ⟨o,b,u,_,_,T,eo,EV eb,mV eu,okb,ews,ers,⟨congrArg (·.1) ews,congrArg (·.2.1) ews,congrArg (·.2.2.1) ews,congrArg (·.2.2.2) ews⟩,z4.sub (by ac_nf),λb' u' N' H' e1 e2 e3 e4 e5 e6 y=>?_⟩;refine ⟨M.set i b',W.set i u',hK.set eb eu e3 e4 e5 e6,?_⟩;rw[c4 (f:=bF) eb (y:=b') (by show V.ref b'.m=V.ref b.m;rw[e1]),c4 (f:=cB) eu (y:=u') (by show V.ref u'.w=V.ref u.w;rw[e2])];have zh:Sep (aU o::cR u'::a8 R b'::pt C (.lst (cs.map V.int))::pt ML (.lst (L.map bz))::pt WL (.lst (W.map cB))::bJ R c cs gw (L.map bt) (M.map bF)::hand h N'::T) H':=y.sub (by ac_nf);subst eT;have zi:=Sep.push (.t (.t (.t (.t (.t (.t (.t (aa (aa (aj eo)))))))))) zh;have zj:=Sep.push (.t (.t (.t (.t (.t (.t (aa (cG eu)))))))) zi;exact Sep.push (.t (.t (.t (.t (.t (cG eb)))))) zj
def JP (ro:Ro K R)(hk:6<=k)(n1:L.length<=4)(c60:cs.length<=60){E:XK}(z:cg R h c C ML WL cs gw Δ L N H)(q:∀ H',cg R h c C ML WL cs gw Δ L N H'->Q (.bl true) H'):ab tab R k f7 [.ref c,.ref C,.ref ML,.ref WL] H Q E:=by
 obtain ⟨M,W,hK,z⟩:=z;have e:∀ O:List aB,(M.map (a8 R)++(W.map cR++L.map aU))++O=M.map (a8 R)++(W.map cR++(L.map aU++O)):=λO=>by rw[le,le]
 rw[<-e] at z;have z1:=Sep.mv (P:=[_,_,_,_]) (Δ:=[hand h N]) (L:=M.map (a8 R)++(W.map cR++L.map aU)) (O:=Δ) z;rw[e] at z1;refine wo ro hk hK n1 c60 (O:=hand h N::Δ) z1 (λH2 z2=>q H2 ⟨M,W,hK,?_⟩);rw[<-e] at z2⊢;exact Sep.mv (P:=[_,_,_,_]) (Δ:=M.map (a8 R)++(W.map cR++L.map aU)) (L:=[hand h N]) (O:=Δ) z2
end
section
variable {h c C ML WL:Addr}{cs:List Int}{gw:List Str}{Δ:List aB}{L:List Mb}{N:Int}{D:Ends}{E:St->XK}{u0 u6 u8 u9 u10 u11 u12 u13 u14 u15 u16:Option V}
def uT {j:Nat}(ro:Ro K R)(hk:14<=k)(n1:L.length<=4)(c60:cs.length<=60)(z:cg R h c C ML WL cs gw Δ L N H)
  (q:∀ H',cg R h c C ML WL cs gw Δ L N H'->D.nx [u0,some (.ref h),some (.ref C),some (.ref ML),some (.ref c),some (.ref WL),u6,some (.int (0+(j:Int))),u8,u9,u10,u11,u12,u13,u14,u15,u16] H'):
  wB (eU 3 (Dr (eU 6 lX.body))) ⟨tab,R,ab tab R (k-1),true⟩ D E [u0,some (.ref h),some (.ref C),some (.ref ML),some (.ref c),some (.ref WL),u6,some (.int (0+(j:Int))),u8,u9,u10,u11,u12,u13,u14,u15,u16] H:=by
 right;refine az (λg=>?_) (λg=>?_)
 ·right;refine JP ro nofun n1 c60 z (λH3 y2=>?_);refine ak rfl ?_;exact q H3 y2
 ·refine ak rfl ?_;exact q H z
def FH {j i:Nat}{wy:Int}(ro:Ro K R)(hk:14<=k)(hN:N<=1099400000000)(n0:1<=L.length)(n1:L.length<=4)(c60:cs.length<=60)(g60:gw.length=cs.length)(hi:i<L.length)(z:cg R h c C ML WL cs gw Δ L N H)
  (q:∀ gw' u10 u11 u12 u13 H',gw'.length=cs.length->cg R h c C ML WL cs gw' Δ L (N+20) H'->D.nx [u0,some (.ref h),some (.ref C),some (.ref ML),some (.ref c),some (.ref WL),u6,some (.int (0+(j:Int))),some (.int wy),some (.int (i:Int)),u10,u11,u12,u13,u14,u15,u16] H')
  (hgo:wy≠0->wy≠1->wy<4->False):
  wB (eU 2 (Dr (eU 6 lX.body))) ⟨tab,R,ab tab R (k-1),true⟩ D E [u0,some (.ref h),some (.ref C),some (.ref ML),some (.ref c),some (.ref WL),u6,some (.int (0+(j:Int))),some (.int wy),some (.int (i:Int)),u10,u11,u12,u13,u14,u15,u16] H:=by
 right;refine az (λg=>?_) (λg=>?_)
 ·obtain ⟨o,b,u,ms,ws,T,eo,em,ew,okb,ews,ers,⟨e1,e2,e3,e4⟩,z,cl⟩:=vo hi z;obtain ⟨hx,hl,l60⟩:=qE z;have i1:=aw (i:=(i:Int)) nofun (by rw[sn];exact rm eo);have i2:=aw (i:=(i:Int)) nofun (by rw[sn];exact ew);walk_at "gd";rename_i m H2 m0 m1 z2;obtain ⟨n,rfl⟩:=sw m0;have zb:Sep (yp R h c C ML WL cs gw L ms ws o b u (N+20) T) H2:=(ao (n:=N+20) (z2.pull (A:=hand h _) (by symm)) nofun).sub (by ac_nf);clear z z2;right;refine ae dP zb (.t .e) rfl rfl ?_;left;refine Fx (n:=n) ro nofun em okb zb (λt H7 zc=>?_);have ht:=(mF (zc.pull (.t (.t (.t (.t .e)))))).atT;right;refine aD (zc.get (by symm)) i1 ?_;right;refine bH ht rfl ?_;right;refine aD (zc.get (by symm)) i2 ?_;right;refine Cd (n:=n) nofun (by rw[e1];exact okb.1) (by rw[e1,<-ers];exact okb.2.1) (by rw[e2];exact hx) (by rw[e3,e4];exact hl) (by rw[<-ers];exact okb.2.2) (zc.sub (.cons (.t (.t (.t .e))) (.cons (.t (.t (.t .e))) .refl))) (λt2 H8 ze=>?_);rw[<-ers,e1,e2,e3,e4] at ze;refine AK (Hx (ze.get (.t (.t (.t .e)))) ze.at) (by decide) (ze.pull (.t (.t (.t .e)))).ne ?_;refine ak rfl ?_;obtain ⟨g0,g1,g2⟩:=uN (ws:=b.ws) (n:=n) (x:=b.x) (cs:=b.cs) okb.2.2 okb.1 okb.2.1;have ew2:vq (BC b.rs n u)=sG (JC n b):=by
   show ((rN b.rs u.ws n u.at_ u.x u.cs).at_,(rN b.rs u.ws n u.at_ u.x u.cs).x,(rN b.rs u.ws n u.at_ u.x u.cs).cs,u.ws)=((rN b.rs b.ws n b.at_ b.x b.cs).at_,(rN b.rs b.ws n b.at_ b.x b.cs).x,(rN b.rs b.ws n b.at_ b.x b.cs).cs,b.ws);rw[e1,e2,e3,e4]
  have zf:Sep (yp R h c C ML WL cs gw L ms ws o (JC n b) (BC b.rs n u) (N+20) T) H8:=ze.sub (by ac_nf);exact uT (k:=k) (j:=j) ro hk n1 c60 (cl (JC n b) (BC b.rs n u) (N+20) H8 rfl rfl ew2 rfl ⟨g1,g2,okb.2.2⟩ (vT hx).2 zf) (λH' y=>q gw _ _ _ _ H' g60 y)
 right;refine az (λg1=>?_) (λg1=>?_)
 ·obtain ⟨M,W,hK,z⟩:=z;have okM:∀ m ∈ M,m.cs.length=m.ws.length:=λm hm=>by
   obtain ⟨n,hn⟩:=getElem?_of_mem hm;exact (qE (z.pull (.t (.t (.t (.t (.t (aj hn)))))))).2.1
  walk_at "gd";rename_i r1 H2 r10 r11 z2 r2 H3 r20 r21 z3 l1 H4 z4 r3 H5 r30 r31 z5;obtain ⟨v,ev,wd,rfl,hw⟩:=dX (xs:=[.str "look",.str "shut",.str "open",.str "open"]) (P:=λv=>∃ w,v=.str w/\dH w=true) (r:=r3) r30 (by simpa using r31) (K1 ⟨_,rfl,by decide+kernel⟩ ⟨_,rfl,by decide+kernel⟩ ⟨_,rfl,by decide+kernel⟩ ⟨_,rfl,by decide+kernel⟩);refine aD (by grind) ev ?_;rw[ce] at r11 r21;have y0:Sep (hand h (N+20)::pt C (.lst (cs.map V.int))::pt ML (.lst (L.map bz))::pt WL (.lst (W.map cB))::bJ R c cs gw (L.map bt) (M.map bF)::(M.map (a8 R)++(W.map cR++(L.map aU++Δ)))) H5:=(ao (n:=N+20) z5 nofun).sub (by ac_nf);clear z z2 z3 z4 z5;have y1:=Sep.push (.t (.t (.t (.t (aa (aa (aa .e))))))) y0;have y2:=Sep.push (.t (.t (.t (aa (aa (aa .e)))))) y1;have y3:=Sep.push (.t (.t (aa .e))) (y2.pull (A:=pt WL (.lst (W.map cB))) (.t .e));have y4:=Sep.push (.t (aa .e)) y3;clear y0 y1 y2 y3;right;refine yo ro nofun r10 nofun nofun hw nofun c60 n1 okM hK y4 (λW' H6 hK' ew y5=>?_);refine ak rfl ?_;have x1:=y5.pull (A:=hand h (N+20)) (.t (aa (.t (.t (aa (aa (.t .e)))))));have x2:=x1.pull (A:=bJ R c cs (bR wd gw r1.toNat (r1+r2-r1).toNat) (L.map bt) (M.map bF)) (.t .e);have x3:=x2.pull (A:=pt WL (.lst (W.map cB))) (.t (.t (aa (.t .e))));have x4:=x3.pull (A:=pt ML (.lst (L.map bz))) (.t (.t (.t (aa .e))));have x5:=x4.pull (A:=pt C (.lst (cs.map V.int))) (.t (.t (.t (.t (aa (aa (aa .e)))))));have yi:cg R h c C ML WL cs (bR wd gw r1.toNat (r1+r2-r1).toNat) Δ L (N+20) H6:=⟨_,W',hK',by rw[DR,ew];exact x5⟩;exact uT (k:=k) (j:=j) ro hk n1 c60 yi (λH' y=>q _ _ _ _ _ H' (by rw[eK];exact g60) y)
 right;refine ax (λg2=>absurd g2 (λh=>hgo g g1 h)) (λg2=>?_);obtain ⟨o,b,u,ms,ws,T,eo,em,ew,okb,ews,ers,⟨e1,e2,e3,e4⟩,z,cl⟩:=vo hi z;obtain ⟨hx,hl,l60⟩:=qE z;have i1:=aw (i:=(i:Int)) nofun (by rw[sn];exact rm eo);have i2:=aw (i:=(i:Int)) nofun (by rw[sn];exact ew);have zb:Sep (yp R h c C ML WL cs gw L ms ws o b u (N+20) T) H:=(ao (n:=N+20) (z.pull (A:=hand h _) (by symm)) nofun).sub (by ac_nf);clear z;right;refine ae dP zb (.t .e) rfl rfl ?_;left;refine vw ro nofun em okb zb (λH1 z1=>?_);have ht:=(mF (z1.pull (.t (.t (.t .e))))).atT;right;refine aD (z1.get (by symm)) i1 ?_;right;refine bH ht rfl ?_;right;refine aD (z1.get (by symm)) i2 ?_;right;refine qu nofun (by rw[e1];exact okb.1) (by rw[e1,<-ers];exact okb.2.1) (by rw[e2];exact hx) (by rw[e3,e4];exact hl) (by rw[<-ers];exact okb.2.2) (z1.sub (.cons (.t (.t .e)) (.cons (.t (.t .e)) .refl))) (λH2 z2=>?_);obtain ⟨s1,s2⟩:=Bm ews ers;rw[s2];rw[<-ers] at z2 s1;refine vj rfl rfl ?_;refine ak (by rw[qA rfl];rfl) ?_;exact uT (k:=k) (j:=j) ro hk n1 c60 (cl (Br b) (HW b.rs u) (N+20) H2 rfl rfl s1 rfl (uw okb) (fD hx).2 (z2.sub (by ac_nf))) (λH' y=>q gw _ _ _ _ H' g60 y)
end
section
variable {cs:List Int}{L:List Mb}{M:List Mm}{W:List Wm}
def qh.go {i:Nat}(hK:qh cs L M W)(hi:i<L.length):∃ o q u,L[i]? =some o/\M[i]? =some q/\W[i]? =some u/\vq u=sG q/\q.rs=o.S.map (·.2)/\sC q/\stM M i=M.set i (Br q)/\HZ M i=(mS q.rs q.at_ q.x q.cs q.ws).w:=by
 obtain ⟨o,q,u,eo,eq,eu,ews,ers,okq,_⟩:=hK.at hi;refine ⟨o,q,u,eo,eq,eu,ews,ers,okq,?_,?_⟩
 ·unfold stM;rw[eq]
 ·unfold HZ;rw[eq]
end
structure He where
 t:Addr
 f:Addr
 d:Addr
 ws:List Str
abbrev Ej (q:He):V:=.ref q.t
abbrev JK (q:He):aB:=bx λ_:Unit=>[tu q.t [.ref q.f,.ref q.d],pt q.f (.lst (q.ws.map V.str)),pt q.d (.lst (q.ws.map V.str))]
section
variable {h c C ML WL HL:Addr}{cs:List Int}{gw:List Str}{B:List He}{L:List Mb}{N:Int}{D:Ends}{E:St->XK}{u0 u8 u9 u10 u11 u12 u13 u14 u15 u16:Option V}
noncomputable abbrev ud (HL:Addr)(B:List He):List aB:=pt HL (.lst (B.map Ej))::(B.map JK++[])
def Lb {j:Nat}{wy:Int}(ro:Ro K R)(hk:14<=k)(hN:N<=1099400000000)(n0:1<=L.length)(n1:L.length<=4)(c60:cs.length<=60)(hB:B.length<=24)(w0:wy≠0)(w1:wy≠1)(w4:wy<4)(z:cg R h c C ML WL cs gw (ud HL B) L N H)
  (q:∀ e u14 u15 u16 H',cg R h c C ML WL cs gw (ud HL (B++[e])) L (N+20) H'->D.nx [u0,some (.ref h),some (.ref C),some (.ref ML),some (.ref c),some (.ref WL),some (.ref HL),some (.int (0+(j:Int))),some (.int wy),u9,u10,u11,u12,u13,u14,u15,u16] H'):
  wB (eU 2 (Dr (eU 6 lX.body))) ⟨tab,R,ab tab R (k-1),true⟩ D E [u0,some (.ref h),some (.ref C),some (.ref ML),some (.ref c),some (.ref WL),some (.ref HL),some (.int (0+(j:Int))),some (.int wy),u9,u10,u11,u12,u13,u14,u15,u16] H:=by
 obtain ⟨M,W,hK,z⟩:=z;have lM:L.length=M.length:=by have:=hK.fit.1;rwa [ce] at this
 have okM:∀ m ∈ M,0<=m.x.l/\m.cs.length=m.ws.length:=λm hm=>by
  obtain ⟨n,hn⟩:=getElem?_of_mem hm;have:=qE (z.pull (.t (.t (.t (.t (.t (aj hn)))))));exact ⟨this.1,this.2.1⟩
 right;refine az (λg=>absurd g w0) (λ_=>?_);right;refine az (λg=>absurd g w1) (λ_=>?_);right;refine ax (λ_=>?_) (λg=>absurd w4 g);walk_at "gd";rename_i r1 H2 r10 r11 z2;clear z;refine ow (n:=r1.toNat) nofun (λF ys H=>∃ is:List Nat,ys=is.map nV/\(∀ i ∈ is,i<L.length)/\Sep (pt F (.lst ys)::hand h (N+4+((ys.length:Nat):Int))::pt C (.lst (cs.map V.int))::pt ML (.lst (L.map bz))::pt WL (.lst (W.map cB))::bJ R c cs gw (L.map bt) (M.map bF)::(M.map (a8 R)++(W.map cR++(L.map aU++ud HL B)))) H) (λF hF=>⟨[],rfl,λi hi=>absurd hi (by simp),(ao ((z2.new (o:=.lst []) hF).pull (.t .e)) (by show N+1<=N+4+((0:Nat):Int);omega)).pull (.t .e)⟩) (λF ys H hl hI=>?_) (λOl ys H hl hI=>?_)
 ·obtain ⟨is,rfl,his,zz⟩:=hI;right;rw[ce];refine ly nofun (zz.pull (.t .e)) nofun nofun nofun (λr H3 r0 r1 z3=>?_);obtain ⟨i,rfl⟩:=sw r0;refine oE.mk (z3.get (by symm)) nofun ⟨is++[i],by rw[f8];rfl,λj hj=>?_,?_⟩
  ·rcases mem_append.mp hj with hj|hj
   ·exact his j hj
   ·rw[mem_singleton.mp hj]
    omega
  ·have z4:=(z3.pull (.t .e)).set (o':=.lst (is.map nV++[nV i])) rfl;exact (ao (z4.pull (.t .e)) (by rw[ci,ge];omega)).pull (.t .e)
 obtain ⟨is,rfl,his,zz⟩:=hI;rw[ce] at hl zz;have z1:Sep (pt Ol (.lst (is.map nV))::hand h (N+20)::pt C (.lst (cs.map V.int))::pt ML (.lst (L.map bz))::pt WL (.lst (W.map cB))::bJ R c cs gw (L.map bt) (M.map bF)::(M.map (a8 R)++(W.map cR++(L.map aU++ud HL B)))) H:=(ao (zz.pull (.t .e)) nofun).pull (.t .e);clear z2 zz;right;refine l6 (xs:=is.map nV) (by rw[ce];omega) (λF ys H=>∃ W',qh cs L (ku M (is.take ys.length)) W'/\W'.map cB=W.map cB/\(∀ m ∈ ku M (is.take ys.length),0<=m.x.l/\m.cs.length=m.ws.length)/\ys=(qg M (is.take ys.length)).map V.str/\Sep (pt F (.lst ys)::pt Ol (.lst (is.map nV))::hand h (N+20)::pt C (.lst (cs.map V.int))::pt ML (.lst (L.map bz))::pt WL (.lst (W.map cB))::bJ R c cs gw (L.map bt) (M.map bF)::(M.map (a8 R)++(W'.map cR++(L.map aU++ud HL B)))) H) (λF ys H hI=>?_) (λF hF=>⟨W,hK,rfl,okM,rfl,z1.new (o:=.lst []) hF⟩) (λF ys y H hy hI=>?_) (λF ys H hys hI=>?_)
 ·obtain ⟨W',_,_,_,_,zz⟩:=hI;exact aR.of (zz.get (.t .e))
 ·obtain ⟨W',hK',ew,okm,ey,zz⟩:=hI;rw[io] at hy;obtain ⟨i,ei,rfl⟩:=nw.mp hy;have hj:=(tz.mp ei).1;obtain ⟨o,b,u,eo,eb,eu,ews,ers,okb,es,ed⟩:=hK'.go (his i (cr ei));obtain ⟨hx,hl2⟩:=okm b (cr eb);have e1:u.at_=b.at_:=congrArg (·.1) ews;have e2:u.x=b.x:=congrArg (·.2.1) ews;have e3:u.cs=b.cs:=congrArg (·.2.2.1) ews;have e4:u.ws=b.ws:=congrArg (·.2.2.2) ews;have z2:=zz.pull (A:=cR u) (.t (.t (.t (.t (.t (.t (.t (aa (aj eu)))))))));have z3:=z2.pull (A:=aU o) (.t (.t (.t (.t (.t (.t (.t (.t (aa (aa (aj eo)))))))))));have ht:=(mF z3).atT;have i1:=aw (i:=(i:Int)) nofun (by rw[sn];exact rm eo);have i2:kG (W.map cB) (i:Int)=some (.ref u.w):=aw (i:=(i:Int)) nofun (by rw[sn,<-ew];exact mV eu);right;refine aD (z3.get (by symm)) i1 ?_;right;refine bH ht rfl ?_;right;refine aD (z3.get (by symm)) i2 ?_;right;refine qu nofun (by rw[e1];exact okb.1) (by rw[e1,<-ers];exact okb.2.1) (by rw[e2];exact hx) (by rw[e3,e4];exact hl2) (by rw[<-ers];exact okb.2.2) (z3.sub (.cons (.t .e) (.cons .e .refl))) (λH2 z4=>?_);obtain ⟨s1,s2⟩:=Bm ews ers;have eg:ku M (is.take (ys.length+1))=(ku M (is.take ys.length)).set i (Br b):=by rw[cA ei,lS,es]
  have ew2:qg M (is.take (ys.length+1))=qg M (is.take ys.length)++[(mS b.rs b.at_ b.x b.cs b.ws).w]:=by rw[cA ei,lY,ed]
  rw[s2];rw[<-ers] at z4 s1;have z5:=(z4.pull (A:=pt F (.lst ys)) (by symm)).set (o':=.lst (ys++[.str (mS b.rs b.at_ b.x b.cs b.ws).w])) rfl;refine oE.mk (z4.get (by symm)) nofun ⟨W'.set i (HW b.rs u),?_,?_,?_,?_,?_⟩
  ·rw[ci,ge,eg];exact hK'.set eb eu s1 rfl (uw okb) (fD hx).2
  ·rw[c4 (f:=cB) eu (y:=HW b.rs u) rfl,ew]
  ·intro m hm;rw[ci,ge,eg] at hm;rcases mem_or_eq_of_mem_set hm with hm|rfl
   ·exact okm m hm
   ·exact ⟨(fD hx).1,(fD hx).2.trans hl2⟩
  ·rw[ci,ge,ew2,f8,<-ey]
   rfl
  ·have z6:=Sep.push (.t (.t (.t (.t (.t (.t (.t (.t (aa (aa (aj eo))))))))))) (z5.pull (A:=aU o) (.t (.t .e)));exact Sep.push (.t (.t (.t (.t (.t (.t (.t (aa (cG eu))))))))) (z6.pull (A:=cR (HW b.rs u)) (.t .e))
 ·obtain ⟨W',hK',ew,okm,ey,zz⟩:=hI;rw[ce] at hys;rw[hys,take_length] at hK' ey;subst ey;clear z1;have y1:Sep (pt Ol (.lst (is.map nV))::bJ R c cs gw (L.map bt) (M.map bF)::pt F (.lst ((qg M is).map V.str))::hand h (N+20)::pt C (.lst (cs.map V.int))::pt ML (.lst (L.map bz))::pt WL (.lst (W.map cB))::(M.map (a8 R)++(W'.map cR++(L.map aU++ud HL B)))) H:=zz.sub (by ac_nf);have y2:=Sep.mv (P:=[_,_]) (Δ:=[_,_,_,_,_]) (L:=M.map (a8 R)) y1;right;refine ae dP y2 (.t .e) rfl rfl ?_;left;refine Io ro nofun nofun (λi h=>by rw[<-lM];exact his i h) hK.ok y2 (λG H1 z1=>?_);clear zz y1 y2;have x1:Sep (pt G (.lst ((qg M is).map V.str))::pt Ol (.lst (is.map nV))::bJ R c cs gw (L.map bt) (M.map bF)::pt F (.lst ((qg M is).map V.str))::hand h (N+20)::pt C (.lst (cs.map V.int))::pt ML (.lst (L.map bz))::pt WL (.lst (W.map cB))::((ku M is).map (a8 R)++(W'.map cR++(L.map aU++ud HL B)))) H1:=Sep.mv (P:=[_,_,_]) (Δ:=(ku M is).map (a8 R)) (L:=[_,_,_,_,_]) z1;clear z1;left;refine cw (t:="list") (xC x1.at) rfl ?_;left;refine ak rfl ?_;left;refine AK (vL x1.at (x1.get (.t (.t (.t .e))))) (by decide) (λe=>(x1.pull (.t (.t (.t .e)))).ne e.symm) ?_;refine ak rfl ?_;left;refine ⟨HL,_,rfl,x1.get (.t (.t (.t (.t (.t (.t (.t (.t (aa (aa (aa .e))))))))))),?_⟩;right;rename_i t H2 x2;have x3:=x2.pull (A:=pt HL (.lst (B.map Ej))) (.t (.t (.t (.t (.t (.t (.t (.t (.t (aa (aa (aa .e))))))))))));refine ⟨_,x3.at,qL x3 .e (by rw[ce];omega) (λH3 x4=>?_)⟩;have x5:=(x4.pull (A:=pt t (.tup [.ref G,.ref F])) (.t .e)).toT;have x6:Sep (tu t [.ref G,.ref F]::pt G (.lst ((qg M is).map V.str))::pt F (.lst ((qg M is).map V.str))::pt HL (.lst (B.map Ej++[.ref t]))::pt C (.lst (cs.map V.int))::pt ML (.lst (L.map bz))::pt WL (.lst (W.map cB))::bJ R c cs gw (L.map bt) (M.map bF)::hand h (N+20)::((ku M is).map (a8 R)++(W'.map cR++(L.map aU++(B.map JK++[]))))) H3:=x5.sub (by ac_nf);clear x1 x2 x3 x4 x5;have x7:Sep (JK ⟨t,G,F,qg M is⟩::pt HL (.lst (B.map Ej++[.ref t]))::pt C (.lst (cs.map V.int))::pt ML (.lst (L.map bz))::pt WL (.lst (W.map cB))::bJ R c cs gw (L.map bt) (M.map bF)::hand h (N+20)::((ku M is).map (a8 R)++(W'.map cR++(L.map aU++(B.map JK++[]))))) H3:=fQ () x6;have x8:=Sep.push (.t (.t (.t (.t (.t (.t (aa (aa (aa bW))))))))) x7;have em:B.map Ej++[V.ref t]=(B++[(⟨t,G,F,qg M is⟩:He)]).map Ej:=by
   rw[f8]
   rfl
  rw[em] at x8;have x9:=Sep.push (.t (.t (.t (.t (.t (aa (aa (aa .e)))))))) x8;have yi:cg R h c C ML WL cs gw (ud HL (B++[⟨t,G,F,qg M is⟩])) L (N+20) H3:=⟨ku M is,W',hK',by rw[(sR hK.ok).1,ew];exact x9⟩;left;exact uT (k:=k) (j:=j) ro hk n1 c60 yi (λH' y=>q _ _ _ _ H' y)
end
def AZ (hn:xs.length<=1000)(I:Addr->List V->Hp->Prop)(hl:∀ D ys H,I D ys H->aR R.K H a xs) (h0:∀ D,H D=none->I D [] (upd H D (.lst [])))
  (hs:∀ D ys x H',xs[ys.length]? =some x->I D ys H'->∃ t v1 v2,x=.ref t/\aX R.K H' t [v1,v2]/\te (some v1::some v2::rest) H' (pF I D ys rest (some v1) (some v2)))
  (hd:∀ D ys H',ys.length=xs.length->I D ys H'->Q (.ref D) H'):LCt R.K 2 te (FV R.K a) (none::none::rest) H Q:=by
 unfold LCt;intro D hD;refine ⟨λi m σ' H'=>m=xs.length-i/\i<=xs.length/\∃ ys x0 x1,σ'=x0::x1::rest/\ys.length=i/\I D ys H',⟨xs.length,by simp,Nat.zero_le _,[],none,none,rfl,rfl,h0 D hD⟩,λi m σ' H' ⟨e,hi,ys,x0,x1,e1,e2,h⟩=>?_⟩;subst e1 e2
 by_cases hlt:ys.length<xs.length
 ·refine .inr ⟨⟨xs,xs[ys.length],hl D ys H' h,li hlt⟩,λσ2 H2=>∃ ys2 x2 x3,σ2=x2::x3::rest/\ys2.length=ys.length+1/\I D ys2 H2,λσ2 H2 ⟨ys2,x2,x3,f1,f2,f3⟩=>⟨xs.length-(ys.length+1),by omega,rfl,hlt,ys2,x2,x3,f1,f2,f3⟩,λx H'' y=>?_⟩;obtain ⟨e1,hy⟩:=y;subst e1;obtain ⟨t,v1,v2,rfl,ht,z⟩:=hs D ys x H'' (hy xs (hl D ys H'' h)) h;refine ⟨t,[v1,v2],rfl,ht,rfl,rfl,?_⟩;unfold pF at z;exact ⟨λ_=>z,λe=>nomatch e⟩
 ·have:ys.length=xs.length:=by omega
  exact .inl ⟨⟨xs,hl D ys H' h,Nat.le_of_eq this.symm⟩,hd D ys H' this h⟩
def qh.start {cs:List Int}{B:List Mm}(ok:∀ q ∈ L,IH cs.length q) (eB:B.map DW=L.map (λq=>Em cs (yR q))) (eW:W.map vq=L.map (λq=>sG (Em cs (yR q)))):qh cs L B W:=by
 have f1:∀ l:List Mm,l.map sG=(l.map DW).map sG:=λl=>by rw[List.map_map];rfl
 have f2:∀ l:List Mm,l.map (·.rs)=(l.map DW).map (·.rs):=λl=>by rw[List.map_map];rfl
 have hl:B.length=L.length:=by
  have:=congrArg List.length eB
  rwa [ce,ce] at this
 have be:∀ {n:Nat}{q:Mm},B[n]? =some q->∃ o,L[n]? =some o/\Em cs (yR o)=DW q:=λ{n q} h=>by
  have h2:(B.map DW)[n]? =(L.map (λq=>Em cs (yR q)))[n]? :=by rw[eB]
  rw[io,io,h] at h2;obtain ⟨o,g1,g2⟩:=nw.mp h2.symm;exact ⟨o,g1,g2⟩
 refine ⟨?_,?_,λq hq=>?_,⟨by rw[ce];exact hl.symm,λi p q e1 e2=>?_⟩⟩
 ·rw[eW,f1,eB,List.map_map]
  rfl
 ·rw[f2,eB,List.map_map]
  rfl
 ·obtain ⟨n,hn⟩:=getElem?_of_mem hq;obtain ⟨o,eo,e⟩:=be hn;obtain ⟨_,_,oR,_⟩:=ok o (cr eo);have a1:(0:Int)=q.at_:=congrArg Mm.at_ e;have a2:o.S.map (·.2)=q.rs:=congrArg Mm.rs e;unfold sC;rw[<-a1,<-a2];exact ⟨Int.le_refl _,by omega,oR⟩
 ·obtain ⟨o,eo,e⟩:=be e2;rw[io,eo] at e1;cases e1;obtain ⟨⟨o0,o1,o2⟩,_⟩:=ok o (cr eo);have a1:(cs.drop o.i.toNat).take (o.j.toNat-o.i.toNat)=q.cs:=congrArg Mm.cs e;rw[<-a1,db,jp];show 0<=o.i/\o.j<=(cs.length:Int)/\o.i+_=o.j
  omega
noncomputable abbrev qz (cs:List Int):List Str:=sK cs.length "open"
section
variable {h c C ML WL HL:Addr}{cs:List Int}{gw:List Str}{B:List He}{L:List Mb}{N:Int}{D:Ends}{E:St->XK}{u0 u8 u9 u10 u11 u12 u13 u14 u15 u16:Option V}
def FW {j:Nat}(ro:Ro K R)(hk:14<=k)(hN:N<=1099300000000)(n0:1<=L.length)(n1:L.length<=4)(c60:cs.length<=60)(g60:gw.length=cs.length)(hB:B.length<=24)(z:cg R h c C ML WL cs gw (ud HL B) L N H)
  (q:∀ gw' B' u8 u9 u10 u11 u12 u13 u14 u15 u16 H',gw'.length=cs.length->B'.length<=B.length+1->cg R h c C ML WL cs gw' (ud HL B') L (N+22) H'->D.nx [u0,some (.ref h),some (.ref C),some (.ref ML),some (.ref c),some (.ref WL),some (.ref HL),some (.int (0+(j:Int))),u8,u9,u10,u11,u12,u13,u14,u15,u16] H'):
  wB (Dr (eU 6 lX.body)) ⟨tab,R,ab tab R (k-1),true⟩ D E [u0,some (.ref h),some (.ref C),some (.ref ML),some (.ref c),some (.ref WL),some (.ref HL),some (.int (0+(j:Int))),u8,u9,u10,u11,u12,u13,u14,u15,u16] H:=by
 obtain ⟨M,W,hK,z⟩:=z;right;refine ly nofun (z.pull (A:=hand h N) (.t (.t (.t (.t .e))))) nofun nofun nofun (λwy H1 w0 w1 z1=>?_);clear z;right;rw[ce];refine ly nofun z1 nofun nofun nofun (λi H2 i0 i1 z2=>?_);clear z1;obtain ⟨i,rfl⟩:=sw i0;have zi:cg R h c C ML WL cs gw (ud HL B) L (N+2) H2:=⟨M,W,hK,(ao (n:=N+2) z2 nofun).sub (by ac_nf)⟩;clear z2;have en:N+2+20=N+22:=by omega
 by_cases hw:wy≠0/\wy≠1/\wy<4
 ·exact Lb (k:=k) (j:=j) ro hk nofun n0 n1 c60 hB hw.1 hw.2.1 hw.2.2 zi (λe v14 v15 v16 H' y=>q gw (B++[e]) _ _ _ _ _ _ _ _ _ H' g60 (by rw[ci,ge];omega) (en▸y))
 ·exact FH (k:=k) (j:=j) ro hk nofun n0 n1 c60 g60 nofun zi (λgw' v10 v11 v12 v13 H' hg y=>q gw' B _ _ _ _ _ _ _ _ _ H' hg nofun (en▸y)) (λa b c=>hw ⟨a,b,c⟩)
end
def zR (h:∀ y ∈ ys,y=.bl true):ys.all aN=true/\CG (.bl false) ys=false:=by
 refine ⟨all_eq_true.mpr λy hy=>by rw[h y hy];rfl,?_⟩;unfold CG;refine any_eq_false.mpr λy hy=>?_
 rw[h y hy]
 decide
def Fg (ro:Ro K R)(hk:15<=k):∀ vs H Q E,jx K 63 vs H Q E->ab tab R k EI vs H Q E:=by
 rintro vs H Q E ⟨a,is,rfl,hS,h63,hQ⟩;refine wc (d:=lX) nofun rfl rfl ?_;right;rw[<-ro.hK] at hS;refine Hl nofun Sep.nil hS h63 (λh H1 hs1=>?_);walk_at "gd";rename_i q1 H3 hs3 r2 H4 r20 r21 hs4;obtain ⟨v,e2,M,rfl,M0,M1⟩:=dX (xs:=[.int 8,.int 24,.int 60]) (P:=inR 1 60) (r:=r2) r20 (by simpa using r21) (Kx (.mk (by decide) (by decide)) (.mk (by decide) (by decide)) (.mk (by decide) (by decide)));refine aD (by grind) e2 ?_;right;refine yD (O:=[]) (m:=10) nofun (ao (hs4.sub (Γ':=hand h _::[]) (by ac_nf)) nofun) nofun M0 M1 (λC cs H5 c0 c1 hc z5=>?_);clear hs1 hs3 hs4;right;refine tY (O:=[]) (m:=400) nofun (ao (z5.sub (Γ':=hand h _::pt C (.lst (cs.map V.int))::[]) (by ac_nf)) nofun) nofun (by decide) (by decide) c0 nofun (λML L H8 n0 n1 ok hd z8=>?_);clear z5;right;have z9:Sep (pt C (.lst (cs.map V.int))::pt ML (.lst (L.map bz))::hand h 2400::(L.map aU++[])) H8:=(ao (n:=2400) (z8.pull (.t .e)) nofun).sub (by ac_nf);refine Dm (O:=hand h 2400::[]) ro nofun n0 n1 ok hd c0 nofun hc (Sep.mv (P:=[_,_]) (Δ:=[_]) (L:=L.map aU) (O:=[]) z9) (λc B H9 eB za=>?_);clear z8 z9;right;have zb:Sep (pt C (.lst (cs.map V.int))::pt ML (.lst (L.map bz))::(L.map aU++(bJ R c cs (qz cs) (L.map bt) (B.map bF)::(B.map (a8 R)++[hand h 2400])))) H9:=Sep.mv (P:=[]) (Δ:=bJ R c cs (qz cs) (L.map bt) (B.map bF)::B.map (a8 R)) (L:=pt C (.lst (cs.map V.int))::pt ML (.lst (L.map bz))::L.map aU) (O:=[hand h 2400]) za;clear za;refine xX nofun n1 ok nofun zb (λWL W Ha eW zc=>?_);have zd:Sep (pt WL (.lst (W.map cB))::pt C (.lst (cs.map V.int))::pt ML (.lst (L.map bz))::bJ R c cs (qz cs) (L.map bt) (B.map bF)::(B.map (a8 R)++((W.map cR++L.map aU)++[hand h 2400]))) Ha:=Sep.mv (P:=[_,_,_]) (Δ:=W.map cR++L.map aU) (L:=bJ R c cs (qz cs) (L.map bt) (B.map bF)::B.map (a8 R)) (O:=[hand h 2400]) (by rw[le];exact zc);have ze:=zd.pull (A:=hand h 2400) (.t (.t (.t (.t (aa (aa .e))))));rw[le] at ze;clear zb zc zd;right;rename_i HL Hb zf;have zg:Sep (hand h 2400::pt WL (.lst (W.map cB))::pt C (.lst (cs.map V.int))::pt ML (.lst (L.map bz))::bJ R c cs (qz cs) (L.map bt) (B.map bF)::(B.map (a8 R)++(W.map cR++(L.map aU++ud HL [])))) Hb:=Sep.push (.t (.t (.t (.t (.t (aa (aa (aa .e)))))))) zf;have zi:cg R h c C ML WL cs (qz cs) (ud HL []) L 2400 Hb:=⟨B,W,.start ok eB eW,zg.sub (by ac_nf)⟩;clear ze zf zg;right;refine dM (λj U H=>∃ gw A u7 u8 u9 u10 u11 u12 u13 u14 u15 u16,U=[some (.ref a),some (.ref h),some (.ref C),some (.ref ML),some (.ref c),some (.ref WL),some (.ref HL),u7,u8,u9,u10,u11,u12,u13,u14,u15,u16]/\gw.length=cs.length/\A.length<=j/\cg R h c C ML WL cs gw (ud HL A) L (2400+22*(j:Int)) H) ⟨qz cs,[],none,none,none,none,none,none,none,none,none,none,rfl,by simp[qz],re _,(show (2400:Int)+22*((0:Nat):Int)=2400 by omega)▸zi⟩ ?_ ?_
 ·rintro j U H hj ⟨gw,A,u7,u8,u9,u10,u11,u12,u13,u14,u15,u16,rfl,g60,lA,zz⟩;refine FW (k:=k) (j:=j) ro nofun nofun n0 n1 nofun g60 nofun zz (λgw' A' v8 v9 v10 v11 v12 v13 v14 v15 v16 H' hg hA z2=>⟨gw',A',_,v8,v9,v10,v11,v12,v13,v14,v15,v16,rfl,hg,by omega,?_⟩);rw[show (2400:Int)+22*((j+1:Nat):Int)=2400+22*(j:Int)+22 by omega];exact z2
 ·rintro U H ⟨gw,A,u7,u8,u9,u10,u11,u12,u13,u14,u15,u16,rfl,g60,lA,⟨M,W,hK,zz⟩⟩;have zh:=zz.pull (A:=pt HL (.lst (A.map Ej))) (.t (.t (.t (.t (.t (aa (aa (aa .e))))))));right;clear zh;refine AZ (xs:=A.map Ej) (by rw[ce];omega) (λF ys H=>(∀ y ∈ ys,y=.bl true)/\Sep (pt F (.lst ys)::pt C (.lst (cs.map V.int))::pt ML (.lst (L.map bz))::pt WL (.lst (W.map cB))::bJ R c cs gw (L.map bt) (M.map bF)::hand h _::(M.map (a8 R)++(W.map cR++(L.map aU++ud HL A)))) H) (λF ys H ⟨_,z1⟩=>aR.of (z1.get (.t (.t (.t (.t (.t (.t (aa (aa (aa .e))))))))))) (λF hF=>⟨λy hy=>absurd hy (by simp),zz.new (o:=.lst []) hF⟩) (λF ys y H hy hI=>?_) (λF ys H hl hI=>?_)
  ·obtain ⟨hT,z1⟩:=hI;rw[io] at hy;obtain ⟨o,eo,rfl⟩:=nw.mp hy;have hlt:=(tz.mp eo).1;obtain ⟨_,z2⟩:=iq (z1.pull (A:=JK o) (.t (.t (.t (.t (.t (.t (aa (aa (aa (.t (aj eo))))))))))));have z2:Sep (tu o.t [.ref o.f,.ref o.d]::pt o.f (.lst (o.ws.map V.str))::pt o.d (.lst (o.ws.map V.str))::_) H:=z2;refine ⟨o.t,.ref o.f,.ref o.d,rfl,aX.of z2.atT,?_⟩;right;refine um (vL (z2.get (.t .e)) (z2.get (.t (.t .e)))) (by decide) (Sep.ne (z2.sub (Γ':=[pt o.f (.lst (o.ws.map V.str)),pt o.d (.lst (o.ws.map V.str))]) (by ac_nf))) ?_;refine pF.mk z1.at nofun ⟨λy hy=>?_,z1.set rfl⟩;rcases mem_append.mp hy with hy|hy
   ·exact hT y hy
   ·exact mem_singleton.mp hy
  ·obtain ⟨hT,z1⟩:=hI;obtain ⟨t1,t2⟩:=zR hT;right;refine Lc (aR.of z1.at) rfl t1 ?_;rw[t2];refine ak rfl ?_;right;exact JP ro nofun n1 nofun ⟨M,W,hK,z1.drop⟩ (λH2 _=>hQ H2)
def zr (ro:Ro K R):∀ vs H Q E,jx K 63 vs H Q E->ab tab R 15 EI vs H Q E:=Fg ro (re _)
end
def walk {l:W.OpenLaw}{q:Program}{loose:List Str}{XP:(Str->Option Value)->Heap->Prop}{YP:World->Heap->Prop}{d:DefRec}{K:Params->W.Frag}(hn:l.most=some 63)(hdf:d.params.defaults=[])
    (hY:∀ (w:World) (h:Heap),YP w h->(K w.params).In h)
    (F:∀ (w:World) (mg:NF) (fa:Addr) (h:Heap),(K w.params).In h->h.Ns mainGlobals mg->mg d.name=some (.ref fa)->
      ∃ fd:FuncData,(∀ (s:Shared) (u:Value),BindsTo s fd ⟨[u],[]⟩ [("_law_script",u)])/\∀ base:Heap,(K w.params).In base->base.Ns mainGlobals mg->dm l.prog w (K w.params) mg base (yP l.prog w) 30 fa fd ["_law_script"] (jx (K w.params) 63)):
    W.WalkO q loose XP YP l.row.toRowW d [] (λf vs=>PySem.call f vs):=
  L2.DZ (n:=63) (k:=30) (x:="_law_script") (CX:=λw=>yP l.prog w) (sp:=λw=>jx (K w.params) 63) hn (by decide) hdf ⟨rfl,by decide,by decide⟩ hY F (λ_ _ a ns hl _ hS=>⟨a,ns,rfl,hS,hl,λ_=>rfl⟩) λ_ _ _ _ _ z=>Ad z
abbrev MV:List (Str×V):=[("BOUND",.int 1000000000),("MOST_ROWS",.int 24),("MOST_CELLS",.int 60),("MOST_MEMBERS",.int 4),("THINGS_OF_A_MEMBER",.int 4),("MOST_HOPPED",.int 24),("NAMES",.ref 239),("LEAVES",.ref 613)]
theorem ckA (p:Params):L3.FQ (K0 p) tab Na MU MV=true:=by kernel_rfl
theorem ckB (p:Params):L3.pj (K0 p) tab Na 0 tab.fns=true:=by kernel_rfl
end My
open PySem PySem.W PyProof.Rows
set_option maxRecDepth 100000 in
set_option maxHeartbeats 0 in
theorem PySem.Challenge.cw_haulbell_k73_whole_any_order_holds : PySem.Challenge.rw_haulbell_k73_whole_any_order.Holds := by
  refine holds_law My.IP fun said=>?_
  refine W.holds_open (loose:=My.zk) (N:=20414)
    (q:=My.rE My.pr)
    (Yf:=fun s=>My.KC.map s.heap.get?)
    (Ya:=fun w=>(My.K0 w.params).map fun p=>some p.2)
    (Xt:=fun s=>xlAt (My.rE My.pr) [] s&&recOk PySem.Challenge.rw_haulbell_k73_whole_any_order.row.records s)
    (XP:=XL (My.rE My.pr) [])
    (YP:=InK My.K0) My.IY
    (InK.of (as:=My.KC) fun _=>by kernel_rfl) InK.keeps
    (fun s e=>xl_of s (Bool.and_eq_true_iff.mp e).1)
    XL.keeps (by rfl) (by rfl) (by rfl)
    (fun s e=>recFacts_of (Bool.and_eq_true_iff.mp e).2)
    (by rfl) (by assumption) (by decide+kernel)
    ⟨rfl,rfl,rfl,rfl,rfl,by decide+kernel⟩ ?hw ?hc
  case hw=>w_witness2
  refine My.walk (l:=PySem.Challenge.rw_haulbell_k73_whole_any_order) rfl rfl (fun w h Y=>Y) ?F
  case F=>
    intro w mg fa h KX G hmg;exact L3.Dt KX G hmg (T:=My.tab) (fs:=My.Na) (cs:=My.MU) (gs:=My.MV) (d:=My.lX) (fl:=123) (k:=15) (My.ckA _) (My.ckB _) (by kernel_rfl) rfl rfl rfl (My.zr ⟨rfl,by kernel_rfl,by kernel_rfl,by kernel_rfl,by kernel_rfl,by kernel_rfl,by kernel_rfl,⟨239,by kernel_rfl,L3.zp (by kernel_rfl)⟩,⟨613,by kernel_rfl,L3.zp (by kernel_rfl)⟩⟩)
