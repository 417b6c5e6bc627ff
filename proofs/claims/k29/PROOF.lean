import PyProof.Rows.All
import Wide.All
import OpenK.AllK
import Wide.FinOn
import Lean
import PyProof.EqAt
import PyProof.EqKinds
import PyProof.TupleCall
import PyProof.P3Eq
import PyProof.NeData
import PyProof.FitsBits
import PyProof.ZipIter
import PyProof.TupleIter
import KE.KRevIter
import PyProof.TupleOfGen
import PyProof.ListRange
import KE.KIsAll
import PyProof.ExcArgsOwn
import OpenK.KDescr
import PyProof.StationsW
import PyProof.ExcBaseAll.ValueError
import OpenK.KOwn
import PyProof.RulesAs
import PyProof.RulesDel
import PyProof.Rows.SortWalk
import PyProof.CompUse
import KE.KDictSum
import PyProof.WalkInts
import KE.KSortTup
import PyProof.Rows.TupDisplay
import KE.KIntText
import PyProof.JoinWalk
import PyProof.ExcInit
import PyProof.ExcClass2
import PySem.Challenge.RW_pebbletoll_k29_wishes_refused
set_option Elab.async false
set_option linter.all false
set_option maxRecDepth 100000
namespace Hd
open PySem
def top (i:Nat):Stmt:=PySem.Challenge.pw_pebbletoll_k29_wishes_refused.main.body.getD i (.Pass ⟨0,0,0,0⟩)
def inC (s:Stmt) (j:Nat):Stmt:=match s with
 | .ClassDef _ _ _ b _ _ _ _ _ _ _=>b.getD j (.Pass ⟨0,0,0,0⟩)
 | _=>.Pass ⟨0,0,0,0⟩
def kA (s:Stmt):Arguments:=match s with
 | .FunctionDef _ a _ _ _ _ _ _ _ _=>a
 | _=>{ posonlyargs:=[],args:=[],vararg:=none,kwonlyargs:=[],kw_defaults:=[],kwarg:=none,defaults:=[] }
def kB (s:Stmt):List Stmt:=match s with
 | .FunctionDef _ _ b _ _ _ _ _ _ _=>b
 | _=>[]
def kS (s:Stmt):Scope:=match s with
 | .FunctionDef _ _ _ _ _ _ sc _ _ _=>sc
 | _=>{ kind:=.function,names:=[],isGenerator:=false,isCoroutine:=false }
open PySem.W PySem.Calls PyProof.Rows
def en (P:Params) (s:Str) (t:Tok) (v:Value):DictEntry:=.mk (PyData.keyHash P s) (.str s t) v
def cO (a b:Str) (t1 t2 t3:Tok) (i1 i2 i3 i4 i5:Int) (r1:Value) (b1:Bool) (i6:Int) (r2 v1 v2 v3 r3:Value) (i7 i8:Int) (t4:Tok):Obj:=.mk (.type "code") none (.fields #[.str a t1,.str b t2,.str "/claim/cut.py" t3,.int i1 0,.int i2 0,.int i3 0,.int i4 0,.int i5 0,r1,.bool b1,.int i6 0,r2,v1,v2,v3,r3,.int i7 0,.int i8 0,.str "/claim/cut.py" t4]) #[]
def fR (a b:Str) (s:Stmt):Obj:=.mk .none none (.func (.mk a b (kA s) (.stmts (kB s)) (kS s) 0 [] .none .none .none .none none .none .none 0)) #[]
def fO (a b:Str) (s:Stmt) (pm cd:Value):Obj:=.mk (.type "function") none (.func (PySem.W.fnOf a b (kA s) (kB s) (kS s) .none .none .none pm none cd .none)) #[]
def tO (xs:Array Value):Obj:=.mk (.type "tuple") none (.seq xs 0) #[]
def x0:Obj:=(tO #[])
def x1:Obj:=(.mk .none none (.fields #[]) #[])
def x2:Obj:=(cO "<module>" "<module>" 182 183 184 1 0 0 0 0 (.ref 11) false 181 (.ref 12) .none .none .none .none 185 1 186)
def x3:Obj:=(.mk (.type "frame") none .plain #[(some (.ref 13)),(some (.ref 3)),(some (.ref 3)),none,(some (.str "__main__" 164)),none,(some (.ref 0))])
noncomputable def ha (P:Params):Heap:=.mk (.mk (boot_o_0 P :: boot_o_1 P :: boot_o_2 P :: boot_o_3 P :: boot_o_4 P :: boot_o_5 P :: boot_o_6 P :: boot_o_7 P :: boot_o_8 P :: boot_o_9 P :: boot_o_10 P :: x0 :: x1 :: x2 :: x3 :: [])) (.mk [] [] [] 0 [] [] false #[] [] 0 false false false 0 [2000,10,10] false 0 true [] [] 0 false)
noncomputable def hb (P:Params):Heap:=.mk (.mk (boot_o_0 P :: boot_o_1 P :: boot_o_2 P :: boot_o_3 P :: boot_o_4 P :: boot_o_5 P :: boot_o_6 P :: boot_o_7 P :: boot_o_8 P :: boot_o_9 P :: boot_o_10 P :: x0 :: x1 :: x2 :: x3 :: [])) (.mk [] [] [] 0 [] [] false #[] [] 0 false false false 0 [2000,10,10] false 0 true [] [] 0 false)
abbrev st0:List Stmt:=[top 0,top 1,top 2,top 3,top 4,top 5,top 6,top 7,top 8,top 9,top 10,top 11,top 12,top 13,top 14,top 15,top 16,top 17,top 18,top 19]
abbrev st1:List Stmt:=[top 20,top 21,top 22,top 23,top 24,top 25,top 26,top 27,top 28,top 29,top 30,top 31,top 32,top 33,top 34,top 35,top 36,top 37,top 38,top 39,top 40,top 41,top 42,top 43,top 44,top 45,top 46,top 47,top 48,top 49,top 50,top 51,top 52,top 53,top 54,top 55,top 56,top 57,top 58,top 59,top 60,top 61]
abbrev bb:List Stmt:=st0 ++ (st1 ++ ([]))
def env:Env:={ scope:=PySem.Challenge.pw_pebbletoll_k29_wishes_refused.main.scope,locals:=mainNs,globals:=mainNs,cells:=[],code:=(.ref 13),frame:=some 14 }
abbrev cE:Code:=.body bb env
theorem Bm (w:World) (os:OsState):topGo treeTable PySem.Challenge.pw_pebbletoll_k29_wishes_refused w 11 (some (.ref 6)) 12 (Shared.mk (boot_heap w.params) (.mk []) boot_drawn boot_toks os) (topStub PySem.Challenge.pw_pebbletoll_k29_wishes_refused)=some ((Shared.mk (ha w.params) (.mk []) (.mk 0 0 0 0) 187 os),Thread.mk (denote treeTable cE) cE (.mk 0 0 0 0) [topFrame (.mk 0 0 0 0)]):=by kernel_rfl
theorem Ba (w:World) (os:OsState):segRun treeTable PySem.Challenge.pw_pebbletoll_k29_wishes_refused w 11 (some (.ref 6)) 1 1 (Shared.mk (ha w.params) (.mk []) (.mk 0 0 0 0) 187 os) (blockOf bb env cE (.mk 0 0 0 0) [topFrame (.mk 0 0 0 0)])=some (.next,(Shared.mk (hb w.params) (.mk []) (.mk 0 0 0 0) 187 os),cE,(.mk 0 0 0 0)):=by kernel_rfl
def x4 (P:Params):Obj:=(.mk (.type "dict") none (.dict #[(en P "__name__" 165 (.str "pebbletoll.webs" 312)),(en P "__doc__" 166 .none),(en P "__package__" 167 .none),(en P "__loader__" 168 (.builtin "__main__.__loader__#opaque")),(en P "__spec__" 169 .none),(en P "__annotations__" 170 (.ref 6)),(en P "__builtins__" 171 (.ref 4)),(en P "__file__" 173 (.str "/claim/cut.py" 172)),(en P "__cached__" 174 .none),(en P "TollError" 206 (.ref 24)),(en P "BadWeb" 222 (.ref 37)),(en P "NoPlace" 238 (.ref 49)),(en P "NoRoad" 254 (.ref 61)),(en P "BadLaying" 270 (.ref 73)),(en P "BadWish" 286 (.ref 85)),(en P "BadStep" 311 (.ref 104)),(en P "MOST_PLACES" 315 (.int 24 314)),(en P "LEAST_TOLL" 317 (.int 2 316)),(en P "MOST_TOLL" 319 (.int 1000000 318)),(en P "Web" 347 (.ref 121)),(en P "toll" 360 (.ref 132)),(en P "neighbours" 368 (.ref 139)),(en P "check_place" 376 (.ref 146)),(en P "is_place" 384 (.ref 153)),(en P "check_counts" 392 (.ref 160)),(en P "check_ends" 400 (.ref 167)),(en P "check_tolls" 408 (.ref 174))] 27) #[])
def x5:Obj:=(.mk .none none (.fields #[(.int 2 0),(.int 0 0),(.ref 20),(.int 4 0),(.int 0 0),(.ref 33),(.int 6 0),(.int 0 0),(.ref 45),(.int 8 0),(.int 0 0),(.ref 57),(.int 10 0),(.int 0 0),(.ref 69),(.int 12 0),(.int 0 0),(.ref 81),(.int 14 0),(.int 0 0),(.ref 93),(.int 23 0),(.int 0 0),(.ref 112),(.int 34 0),(.int 0 0),(.ref 131),(.int 43 0),(.int 0 0),(.ref 138),(.int 46 0),(.int 0 0),(.ref 145),(.int 49 0),(.int 0 0),(.ref 152),(.int 51 0),(.int 0 0),(.ref 159),(.int 56 0),(.int 0 0),(.ref 166),(.int 61 0),(.int 0 0),(.ref 173)]) #[])
def x6:Obj:=(tO #[(.type "ValueError")])
def x7:Obj:=(.mk (.type "builtin_function_or_method") none (.fields #[(.builtin "type.__prepare__"),(.type "type")]) #[])
def x8 (P:Params):Obj:=(.mk (.type "dict") none (.dict #[(en P "__module__" 196 (.str "pebbletoll.errors" 187)),(en P "__qualname__" 198 (.str "TollError" 197)),(en P "__firstlineno__" 200 (.int 2 199)),(en P "__static_attributes__" 201 (.ref 22))] 4) #[])
def x9:Obj:=(cO "TollError" "TollError" 191 192 193 2 0 0 0 0 (.ref 18) false 181 (.ref 19) .none .none .none .none 194 2 195)
def x10:Obj:=(.mk (.type "frame") none .plain #[(some (.ref 20)),(some (.ref 3)),(some (.ref 17)),none,(some (.str "pebbletoll.errors" 187)),none,(some (.ref 0))])
def x11 (P:Params):Obj:=(.mk (.type "dict") none (.dict #[(en P "__module__" 196 (.str "pebbletoll.errors" 187)),(en P "__firstlineno__" 200 (.int 2 199)),(en P "__static_attributes__" 201 (.ref 22)),(en P "__weakref__" 203 (.ref 25)),(en P "__doc__" 204 .none)] 3) #[])
def x12:Obj:=(.mk (.type "type") none (.cls (.mk "TollError" [(.type "ValueError")] [(.ref 24),(.type "ValueError"),(.type "Exception"),(.type "BaseException"),(.type "object")] 23 "TollError" true [] [(.ref 37),(.ref 49),(.ref 61),(.ref 73),(.ref 85),(.ref 104)] false none false)) #[(some (.ref 15)),none,(some (.str "TollError" 189)),(some (.str "TollError" 197)),(some (.builtin "ValueError.__new__")),(some (.bool true))])
def x13:Obj:=(.mk (.type "getset_descriptor") none (.fields #[(.str "__weakref__" 202),(.ref 24),(.builtin "ExceptionGroup.__weakref__"),.none]) #[])
def x14:Obj:=(.mk (.type "super") none (.fields #[(.ref 24),(.ref 24),(.ref 24)]) #[])
def x15:Obj:=(.mk (.type "builtin_function_or_method") none (.fields #[(.builtin "object.__init_subclass__"),(.ref 24)]) #[])
def x16:Obj:=(tO #[(.ref 24)])
def x17 (P:Params):Obj:=(.mk (.type "dict") none (.dict #[(en P "__module__" 214 (.str "pebbletoll.errors" 187)),(en P "__qualname__" 216 (.str "BadWeb" 215)),(en P "__firstlineno__" 218 (.int 4 217)),(en P "__static_attributes__" 219 (.ref 35))] 4) #[])
def x18:Obj:=(cO "BadWeb" "BadWeb" 209 210 211 4 0 0 0 0 (.ref 31) false 181 (.ref 32) .none .none .none .none 212 4 213)
def x19:Obj:=(.mk (.type "frame") none .plain #[(some (.ref 33)),(some (.ref 3)),(some (.ref 30)),none,(some (.str "pebbletoll.errors" 187)),none,(some (.ref 0))])
def x20 (P:Params):Obj:=(.mk (.type "dict") none (.dict #[(en P "__module__" 214 (.str "pebbletoll.errors" 187)),(en P "__firstlineno__" 218 (.int 4 217)),(en P "__static_attributes__" 219 (.ref 35)),(en P "__doc__" 220 .none)] 2) #[])
def x21:Obj:=(.mk (.type "type") none (.cls (.mk "BadWeb" [(.ref 24)] [(.ref 37),(.ref 24),(.type "ValueError"),(.type "Exception"),(.type "BaseException"),(.type "object")] 36 "BadWeb" true [] [] false none false)) #[(some (.ref 28)),none,(some (.str "BadWeb" 207)),(some (.str "BadWeb" 215)),(some (.builtin "ValueError.__new__")),(some (.bool true))])
def x22:Obj:=(.mk (.type "super") none (.fields #[(.ref 37),(.ref 37),(.ref 37)]) #[])
def x23:Obj:=(.mk (.type "builtin_function_or_method") none (.fields #[(.builtin "object.__init_subclass__"),(.ref 37)]) #[])
def x24 (P:Params):Obj:=(.mk (.type "dict") none (.dict #[(en P "__module__" 230 (.str "pebbletoll.errors" 187)),(en P "__qualname__" 232 (.str "NoPlace" 231)),(en P "__firstlineno__" 234 (.int 6 233)),(en P "__static_attributes__" 235 (.ref 47))] 4) #[])
def x25:Obj:=(cO "NoPlace" "NoPlace" 225 226 227 6 0 0 0 0 (.ref 43) false 181 (.ref 44) .none .none .none .none 228 6 229)
def x26:Obj:=(.mk (.type "frame") none .plain #[(some (.ref 45)),(some (.ref 3)),(some (.ref 42)),none,(some (.str "pebbletoll.errors" 187)),none,(some (.ref 0))])
def x27 (P:Params):Obj:=(.mk (.type "dict") none (.dict #[(en P "__module__" 230 (.str "pebbletoll.errors" 187)),(en P "__firstlineno__" 234 (.int 6 233)),(en P "__static_attributes__" 235 (.ref 47)),(en P "__doc__" 236 .none)] 2) #[])
def x28:Obj:=(.mk (.type "type") none (.cls (.mk "NoPlace" [(.ref 24)] [(.ref 49),(.ref 24),(.type "ValueError"),(.type "Exception"),(.type "BaseException"),(.type "object")] 48 "NoPlace" true [] [] false none false)) #[(some (.ref 40)),none,(some (.str "NoPlace" 223)),(some (.str "NoPlace" 231)),(some (.builtin "ValueError.__new__")),(some (.bool true))])
def x29:Obj:=(.mk (.type "super") none (.fields #[(.ref 49),(.ref 49),(.ref 49)]) #[])
def x30:Obj:=(.mk (.type "builtin_function_or_method") none (.fields #[(.builtin "object.__init_subclass__"),(.ref 49)]) #[])
def x31 (P:Params):Obj:=(.mk (.type "dict") none (.dict #[(en P "__module__" 246 (.str "pebbletoll.errors" 187)),(en P "__qualname__" 248 (.str "NoRoad" 247)),(en P "__firstlineno__" 250 (.int 8 249)),(en P "__static_attributes__" 251 (.ref 59))] 4) #[])
def x32:Obj:=(cO "NoRoad" "NoRoad" 241 242 243 8 0 0 0 0 (.ref 55) false 181 (.ref 56) .none .none .none .none 244 8 245)
def x33:Obj:=(.mk (.type "frame") none .plain #[(some (.ref 57)),(some (.ref 3)),(some (.ref 54)),none,(some (.str "pebbletoll.errors" 187)),none,(some (.ref 0))])
def x34 (P:Params):Obj:=(.mk (.type "dict") none (.dict #[(en P "__module__" 246 (.str "pebbletoll.errors" 187)),(en P "__firstlineno__" 250 (.int 8 249)),(en P "__static_attributes__" 251 (.ref 59)),(en P "__doc__" 252 .none)] 2) #[])
def x35:Obj:=(.mk (.type "type") none (.cls (.mk "NoRoad" [(.ref 24)] [(.ref 61),(.ref 24),(.type "ValueError"),(.type "Exception"),(.type "BaseException"),(.type "object")] 60 "NoRoad" true [] [] false none false)) #[(some (.ref 52)),none,(some (.str "NoRoad" 239)),(some (.str "NoRoad" 247)),(some (.builtin "ValueError.__new__")),(some (.bool true))])
def x36:Obj:=(.mk (.type "super") none (.fields #[(.ref 61),(.ref 61),(.ref 61)]) #[])
def x37:Obj:=(.mk (.type "builtin_function_or_method") none (.fields #[(.builtin "object.__init_subclass__"),(.ref 61)]) #[])
def x38 (P:Params):Obj:=(.mk (.type "dict") none (.dict #[(en P "__module__" 262 (.str "pebbletoll.errors" 187)),(en P "__qualname__" 264 (.str "BadLaying" 263)),(en P "__firstlineno__" 266 (.int 10 265)),(en P "__static_attributes__" 267 (.ref 71))] 4) #[])
def x39:Obj:=(cO "BadLaying" "BadLaying" 257 258 259 10 0 0 0 0 (.ref 67) false 181 (.ref 68) .none .none .none .none 260 10 261)
def x40:Obj:=(.mk (.type "frame") none .plain #[(some (.ref 69)),(some (.ref 3)),(some (.ref 66)),none,(some (.str "pebbletoll.errors" 187)),none,(some (.ref 0))])
def x41 (P:Params):Obj:=(.mk (.type "dict") none (.dict #[(en P "__module__" 262 (.str "pebbletoll.errors" 187)),(en P "__firstlineno__" 266 (.int 10 265)),(en P "__static_attributes__" 267 (.ref 71)),(en P "__doc__" 268 .none)] 2) #[])
def x42:Obj:=(.mk (.type "type") none (.cls (.mk "BadLaying" [(.ref 24)] [(.ref 73),(.ref 24),(.type "ValueError"),(.type "Exception"),(.type "BaseException"),(.type "object")] 72 "BadLaying" true [] [] false none false)) #[(some (.ref 64)),none,(some (.str "BadLaying" 255)),(some (.str "BadLaying" 263)),(some (.builtin "ValueError.__new__")),(some (.bool true))])
def x43:Obj:=(.mk (.type "super") none (.fields #[(.ref 73),(.ref 73),(.ref 73)]) #[])
def x44:Obj:=(.mk (.type "builtin_function_or_method") none (.fields #[(.builtin "object.__init_subclass__"),(.ref 73)]) #[])
def x45 (P:Params):Obj:=(.mk (.type "dict") none (.dict #[(en P "__module__" 278 (.str "pebbletoll.errors" 187)),(en P "__qualname__" 280 (.str "BadWish" 279)),(en P "__firstlineno__" 282 (.int 12 281)),(en P "__static_attributes__" 283 (.ref 83))] 4) #[])
def x46:Obj:=(cO "BadWish" "BadWish" 273 274 275 12 0 0 0 0 (.ref 79) false 181 (.ref 80) .none .none .none .none 276 12 277)
def x47:Obj:=(.mk (.type "frame") none .plain #[(some (.ref 81)),(some (.ref 3)),(some (.ref 78)),none,(some (.str "pebbletoll.errors" 187)),none,(some (.ref 0))])
def x48 (P:Params):Obj:=(.mk (.type "dict") none (.dict #[(en P "__module__" 278 (.str "pebbletoll.errors" 187)),(en P "__firstlineno__" 282 (.int 12 281)),(en P "__static_attributes__" 283 (.ref 83)),(en P "__doc__" 284 .none)] 2) #[])
def x49:Obj:=(.mk (.type "type") none (.cls (.mk "BadWish" [(.ref 24)] [(.ref 85),(.ref 24),(.type "ValueError"),(.type "Exception"),(.type "BaseException"),(.type "object")] 84 "BadWish" true [] [] false none false)) #[(some (.ref 76)),none,(some (.str "BadWish" 271)),(some (.str "BadWish" 279)),(some (.builtin "ValueError.__new__")),(some (.bool true))])
def x50:Obj:=(.mk (.type "super") none (.fields #[(.ref 85),(.ref 85),(.ref 85)]) #[])
def x51:Obj:=(.mk (.type "builtin_function_or_method") none (.fields #[(.builtin "object.__init_subclass__"),(.ref 85)]) #[])
def x52 (P:Params):Obj:=(.mk (.type "dict") none (.dict #[(en P "__module__" 294 (.str "pebbletoll.errors" 187)),(en P "__qualname__" 296 (.str "BadStep" 295)),(en P "__firstlineno__" 298 (.int 14 297)),(en P "__init__" 306 (.ref 101)),(en P "__static_attributes__" 308 (.ref 102))] 5) #[])
def x53:Obj:=(.mk .none none (.fields #[(.int 16 0),(.int 4 0),(.ref 100)]) #[])
def x54:Obj:=(cO "BadStep" "BadStep" 289 290 291 14 0 0 0 0 (.ref 91) false 181 (.ref 92) .none .none .none .none 292 14 293)
def x55:Obj:=(.mk (.type "frame") none .plain #[(some (.ref 93)),(some (.ref 3)),(some (.ref 90)),none,(some (.str "pebbletoll.errors" 187)),none,(some (.ref 0))])
def x56:Obj:=(tO #[(.str "self" 302),(.str "at" 303)])
def x57:Obj:=(fR "__init__" "BadStep.__init__" (inC (top 7) 0))
def x58:Obj:=(cO "__init__" "BadStep.__init__" 299 300 301 16 2 0 0 3 (.ref 95) true 181 (.ref 96) .none (.ref 97) (.ref 98) (.ref 99) 304 16 305)
def x59:Obj:=(fO "__init__" "BadStep.__init__" (inC (top 7) 0) (.str "pebbletoll.errors" 187) (.ref 100))
def x60:Obj:=(tO #[(.str "at" 307)])
def x61 (P:Params):Obj:=(.mk (.type "dict") none (.dict #[(en P "__module__" 294 (.str "pebbletoll.errors" 187)),(en P "__firstlineno__" 298 (.int 14 297)),(en P "__init__" 306 (.ref 101)),(en P "__static_attributes__" 308 (.ref 102)),(en P "__doc__" 309 .none)] 2) #[])
def x62:Obj:=(.mk (.type "type") none (.cls (.mk "BadStep" [(.ref 24)] [(.ref 104),(.ref 24),(.type "ValueError"),(.type "Exception"),(.type "BaseException"),(.type "object")] 103 "BadStep" true [] [] false none false)) #[(some (.ref 88)),none,(some (.str "BadStep" 287)),(some (.str "BadStep" 295)),(some (.builtin "ValueError.__new__")),(some (.bool true))])
def x63:Obj:=(.mk (.type "super") none (.fields #[(.ref 104),(.ref 104),(.ref 104)]) #[])
def x64:Obj:=(.mk (.type "builtin_function_or_method") none (.fields #[(.builtin "object.__init_subclass__"),(.ref 104)]) #[])
def x65 (P:Params):Obj:=(.mk (.type "dict") none (.dict #[(en P "__module__" 327 (.str "pebbletoll.webs" 312)),(en P "__qualname__" 329 (.str "Web" 328)),(en P "__firstlineno__" 331 (.int 23 330)),(en P "__init__" 337 (.ref 118)),(en P "__static_attributes__" 340 (.ref 119))] 5) #[])
def x66:Obj:=(.mk .none none (.fields #[(.int 25 0),(.int 4 0),(.ref 117)]) #[])
def x67:Obj:=(cO "Web" "Web" 322 323 324 23 0 0 0 0 (.ref 110) false 181 (.ref 111) .none .none .none .none 325 23 326)
def x68:Obj:=(.mk (.type "frame") none .plain #[(some (.ref 112)),(some (.ref 3)),(some (.ref 109)),none,(some (.str "pebbletoll.webs" 312)),none,(some (.ref 0))])
def x69:Obj:=(fR "__init__" "Web.__init__" (inC (top 12) 0))
def x70:Obj:=(cO "__init__" "Web.__init__" 332 333 334 25 3 0 0 3 (.ref 114) true 181 (.ref 115) .none .none .none (.ref 116) 335 25 336)
def x71:Obj:=(fO "__init__" "Web.__init__" (inC (top 12) 0) (.str "pebbletoll.webs" 312) (.ref 117))
def x72:Obj:=(tO #[(.str "many" 338),(.str "roads" 339)])
def x73 (P:Params):Obj:=(.mk (.type "dict") none (.dict #[(en P "__module__" 327 (.str "pebbletoll.webs" 312)),(en P "__firstlineno__" 331 (.int 23 330)),(en P "__init__" 337 (.ref 118)),(en P "__static_attributes__" 340 (.ref 119)),(en P "__dict__" 342 (.ref 122)),(en P "__weakref__" 344 (.ref 123)),(en P "__doc__" 345 .none)] 4) #[])
def x74:Obj:=(.mk (.type "type") none (.cls (.mk "Web" [(.type "object")] [(.ref 121),(.type "object")] 120 "Web" true [] [] false none false)) #[none,none,(some (.str "Web" 320)),(some (.str "Web" 328)),(some (.builtin "object.__new__")),(some (.bool true))])
def x75:Obj:=(.mk (.type "getset_descriptor") none (.fields #[(.str "__dict__" 341),(.ref 121),(.builtin "function.__dict__"),(.builtin "function.__dict__#set")]) #[])
def x76:Obj:=(.mk (.type "getset_descriptor") none (.fields #[(.str "__weakref__" 343),(.ref 121),(.builtin "ExceptionGroup.__weakref__"),.none]) #[])
def x77:Obj:=(.mk (.type "super") none (.fields #[(.ref 121),(.ref 121),(.ref 121)]) #[])
def x78:Obj:=(.mk (.type "builtin_function_or_method") none (.fields #[(.builtin "object.__init_subclass__"),(.ref 121)]) #[])
def x79:Obj:=(tO #[(.str "web" 351),(.str "a" 352),(.str "b" 353),(.str "one" 354),(.str "other" 355),(.str "there" 356),(.str "back" 357)])
def x80:Obj:=(fR "toll" "toll" (top 13))
def x81:Obj:=(cO "toll" "toll" 348 349 350 34 3 0 0 3 (.ref 126) true 181 (.ref 127) .none (.ref 128) (.ref 129) (.ref 130) 358 34 359)
def x82:Obj:=(fO "toll" "toll" (top 13) (.str "pebbletoll.webs" 312) (.ref 131))
def x83:Obj:=(tO #[(.str "web" 364),(.str "a" 365)])
def x84:Obj:=(fR "neighbours" "neighbours" (top 14))
def x85:Obj:=(cO "neighbours" "neighbours" 361 362 363 43 2 0 0 3 (.ref 133) true 181 (.ref 134) .none (.ref 135) (.ref 136) (.ref 137) 366 43 367)
def x86:Obj:=(fO "neighbours" "neighbours" (top 14) (.str "pebbletoll.webs" 312) (.ref 138))
def x87:Obj:=(tO #[(.str "web" 372),(.str "number" 373)])
def x88:Obj:=(fR "check_place" "check_place" (top 15))
def x89:Obj:=(cO "check_place" "check_place" 369 370 371 46 2 0 0 3 (.ref 140) true 181 (.ref 141) .none (.ref 142) (.ref 143) (.ref 144) 374 46 375)
def x90:Obj:=(fO "check_place" "check_place" (top 15) (.str "pebbletoll.webs" 312) (.ref 145))
def x91:Obj:=(tO #[(.str "many" 380),(.str "number" 381)])
def x92:Obj:=(fR "is_place" "is_place" (top 16))
def x93:Obj:=(cO "is_place" "is_place" 377 378 379 49 2 0 0 3 (.ref 147) true 181 (.ref 148) .none (.ref 149) (.ref 150) (.ref 151) 382 49 383)
def x94:Obj:=(fO "is_place" "is_place" (top 16) (.str "pebbletoll.webs" 312) (.ref 152))
def x95:Obj:=(tO #[(.str "many" 388),(.str "roads" 389)])
def x96:Obj:=(fR "check_counts" "check_counts" (top 17))
def x97:Obj:=(cO "check_counts" "check_counts" 385 386 387 51 2 0 0 3 (.ref 154) true 181 (.ref 155) .none (.ref 156) (.ref 157) (.ref 158) 390 51 391)
def x98:Obj:=(fO "check_counts" "check_counts" (top 17) (.str "pebbletoll.webs" 312) (.ref 159))
def x99:Obj:=(tO #[(.str "many" 396),(.str "road" 397)])
def vB:Obj:=(fR "check_ends" "check_ends" (top 18))
def sd:Obj:=(cO "check_ends" "check_ends" 393 394 395 56 2 0 0 3 (.ref 161) true 181 (.ref 162) .none (.ref 163) (.ref 164) (.ref 165) 398 56 399)
def rC:Obj:=(fO "check_ends" "check_ends" (top 18) (.str "pebbletoll.webs" 312) (.ref 166))
def rX:Obj:=(tO #[(.str "road" 404),(.str "number" 405)])
def xx:Obj:=(fR "check_tolls" "check_tolls" (top 19))
def re:Obj:=(cO "check_tolls" "check_tolls" 401 402 403 61 1 0 0 3 (.ref 168) true 181 (.ref 169) .none (.ref 170) (.ref 171) (.ref 172) 406 61 407)
def rp:Obj:=(fO "check_tolls" "check_tolls" (top 19) (.str "pebbletoll.webs" 312) (.ref 173))
noncomputable def h0 (P:Params):Heap:=.mk (.mk (boot_o_0 P :: boot_o_1 P :: boot_o_2 P :: x4 P :: boot_o_4 P :: boot_o_5 P :: boot_o_6 P :: boot_o_7 P :: boot_o_8 P :: boot_o_9 P :: boot_o_10 P :: x0 :: x5 :: x2 :: x3 :: x6 :: x7 :: x8 P :: x0 :: x1 :: x9 :: x10 :: x0 :: x11 P :: x12 :: x13 :: x14 :: x15 :: x16 :: x7 :: x17 P :: x0 :: x1 :: x18 :: x19 :: x0 :: x20 P :: x21 :: x22 :: x23 :: x16 :: x7 :: x24 P :: x0 :: x1 :: x25 :: x26 :: x0 :: x27 P :: x28 :: x29 :: x30 :: x16 :: x7 :: x31 P :: x0 :: x1 :: x32 :: x33 :: x0 :: x34 P :: x35 :: x36 :: x37 :: x16 :: x7 :: x38 P :: x0 :: x1 :: x39 :: x40 :: x0 :: x41 P :: x42 :: x43 :: x44 :: x16 :: x7 :: x45 P :: x0 :: x1 :: x46 :: x47 :: x0 :: x48 P :: x49 :: x50 :: x51 :: x16 :: x7 :: x52 P :: x0 :: x53 :: x54 :: x55 :: x0 :: x1 :: x56 :: x0 :: x57 :: x58 :: x59 :: x60 :: x61 P :: x62 :: x63 :: x64 :: x0 :: x7 :: x65 P :: x0 :: x66 :: x67 :: x68 :: x0 :: x1 :: x69 :: x70 :: x71 :: x72 :: x73 P :: x74 :: x75 :: x76 :: x77 :: x78 :: x0 :: x1 :: x79 :: x0 :: x80 :: x81 :: x82 :: x0 :: x1 :: x83 :: x0 :: x84 :: x85 :: x86 :: x0 :: x1 :: x87 :: x0 :: x88 :: x89 :: x90 :: x0 :: x1 :: x91 :: x0 :: x92 :: x93 :: x94 :: x0 :: x1 :: x95 :: x0 :: x96 :: x97 :: x98 :: x0 :: x1 :: x99 :: x0 :: vB :: sd :: rC :: x0 :: x1 :: rX :: x0 :: xx :: re :: rp :: [])) (.mk [] [] [] 0 [] [] false #[] [] 0 false false false 0 [2000,10,10] false 0 true [] [] 0 false)
theorem Bk (w:World) (os:OsState):segRun treeTable PySem.Challenge.pw_pebbletoll_k29_wishes_refused w 11 (some (.ref 6)) 1 1976 (Shared.mk (hb w.params) (.mk []) (.mk 0 0 0 0) 187 os) (piecesOf st0 env cE (.mk 0 0 0 0) [topFrame (.mk 0 0 0 0)])=some (.next,(Shared.mk (h0 w.params) (.mk []) (.mk 0 0 0 0) 409 os),cE,(.mk 61 0 64 55)):=by kernel_rfl
def uG (P:Params):Obj:=(.mk (.type "dict") none (.dict #[(en P "__name__" 165 (.str "law_pebbletoll_k29_wishes_refused" 662)),(en P "__doc__" 166 .none),(en P "__package__" 167 .none),(en P "__loader__" 168 (.builtin "__main__.__loader__#opaque")),(en P "__spec__" 169 .none),(en P "__annotations__" 170 (.ref 6)),(en P "__builtins__" 171 (.ref 4)),(en P "__file__" 173 (.str "/claim/cut.py" 172)),(en P "__cached__" 174 .none),(en P "TollError" 206 (.ref 24)),(en P "BadWeb" 222 (.ref 37)),(en P "NoPlace" 238 (.ref 49)),(en P "NoRoad" 254 (.ref 61)),(en P "BadLaying" 270 (.ref 73)),(en P "BadWish" 286 (.ref 85)),(en P "BadStep" 311 (.ref 104)),(en P "MOST_PLACES" 315 (.int 24 314)),(en P "LEAST_TOLL" 317 (.int 2 316)),(en P "MOST_TOLL" 319 (.int 1000000 318)),(en P "Web" 347 (.ref 121)),(en P "toll" 360 (.ref 132)),(en P "neighbours" 368 (.ref 139)),(en P "check_place" 376 (.ref 146)),(en P "is_place" 384 (.ref 153)),(en P "check_counts" 392 (.ref 160)),(en P "check_ends" 400 (.ref 167)),(en P "check_tolls" 408 (.ref 174)),(en P "check_joined" 420 (.ref 181)),(en P "other_ends" 430 (.ref 188)),(en P "laying_of" 440 (.ref 195)),(en P "is_filled" 446 (.ref 200)),(en P "covers" 452 (.ref 205)),(en P "walked" 463 (.ref 212)),(en P "layings" 475 (.ref 219)),(en P "can_be_done" 484 (.ref 226)),(en P "is_step" 492 (.ref 233)),(en P "taken" 500 (.ref 240)),(en P "behind" 510 (.ref 247)),(en P "ahead" 525 (.ref 254)),(en P "down" 538 (.ref 261)),(en P "kids" 544 (.ref 266)),(en P "inward" 550 (.ref 271)),(en P "wish_of" 560 (.ref 278)),(en P "standings" 566 (.ref 283)),(en P "handed_on" 576 (.ref 290)),(en P "standing" 586 (.ref 297)),(en P "is_met" 595 (.ref 304)),(en P "meeting" 604 (.ref 311)),(en P "steps_in" 619 (.ref 318)),(en P "steps_out" 633 (.ref 325)),(en P "lacks_of" 639 (.ref 330)),(en P "judged" 650 (.ref 337)),(en P "lead_to" 661 (.ref 344)),(en P "_law_drawn" 674 (.ref 351)),(en P "_law_toll" 681 (.ref 358)),(en P "_law_roads" 696 (.ref 365)),(en P "_law_web" 706 (.ref 372)),(en P "_law_bound" 714 (.ref 379)),(en P "_law_laying" 726 (.ref 386)),(en P "_law_wish" 738 (.ref 393)),(en P "_law_spoilt" 748 (.ref 400)),(en P "_law_asked" 759 (.ref 407)),(en P "_law_kinds" 772 (.ref 414)),(en P "law" 796 (.ref 421))] 64) #[])
def AV:Obj:=(.mk .none none (.fields #[(.int 2 0),(.int 0 0),(.ref 20),(.int 4 0),(.int 0 0),(.ref 33),(.int 6 0),(.int 0 0),(.ref 45),(.int 8 0),(.int 0 0),(.ref 57),(.int 10 0),(.int 0 0),(.ref 69),(.int 12 0),(.int 0 0),(.ref 81),(.int 14 0),(.int 0 0),(.ref 93),(.int 23 0),(.int 0 0),(.ref 112),(.int 34 0),(.int 0 0),(.ref 131),(.int 43 0),(.int 0 0),(.ref 138),(.int 46 0),(.int 0 0),(.ref 145),(.int 49 0),(.int 0 0),(.ref 152),(.int 51 0),(.int 0 0),(.ref 159),(.int 56 0),(.int 0 0),(.ref 166),(.int 61 0),(.int 0 0),(.ref 173),(.int 65 0),(.int 0 0),(.ref 180),(.int 76 0),(.int 0 0),(.ref 187),(.int 85 0),(.int 0 0),(.ref 194),(.int 89 0),(.int 0 0),(.ref 199),(.int 91 0),(.int 0 0),(.ref 204),(.int 94 0),(.int 0 0),(.ref 211),(.int 96 0),(.int 0 0),(.ref 218),(.int 103 0),(.int 0 0),(.ref 225),(.int 105 0),(.int 0 0),(.ref 232),(.int 107 0),(.int 0 0),(.ref 239),(.int 109 0),(.int 0 0),(.ref 246),(.int 115 0),(.int 0 0),(.ref 253),(.int 126 0),(.int 0 0),(.ref 260),(.int 136 0),(.int 0 0),(.ref 265),(.int 138 0),(.int 0 0),(.ref 270),(.int 142 0),(.int 0 0),(.ref 277),(.int 146 0),(.int 0 0),(.ref 282),(.int 153 0),(.int 0 0),(.ref 289),(.int 157 0),(.int 0 0),(.ref 296),(.int 159 0),(.int 0 0),(.ref 303),(.int 161 0),(.int 0 0),(.ref 310),(.int 165 0),(.int 0 0),(.ref 317),(.int 173 0),(.int 0 0),(.ref 324),(.int 180 0),(.int 0 0),(.ref 329),(.int 182 0),(.int 0 0),(.ref 336),(.int 187 0),(.int 0 0),(.ref 343),(.int 194 0),(.int 0 0),(.ref 350),(.int 203 0),(.int 0 0),(.ref 357),(.int 207 0),(.int 0 0),(.ref 364),(.int 222 0),(.int 0 0),(.ref 371),(.int 228 0),(.int 0 0),(.ref 378),(.int 231 0),(.int 0 0),(.ref 385),(.int 238 0),(.int 0 0),(.ref 392),(.int 245 0),(.int 0 0),(.ref 399),(.int 259 0),(.int 0 0),(.ref 406),(.int 271 0),(.int 0 0),(.ref 413),(.int 279 0),(.int 0 0),(.ref 420)]) #[])
def wp:Obj:=(tO #[(.str "many" 412),(.str "roads" 413),(.str "reached" 414),(.str "waiting" 415),(.str "place" 416),(.str "end" 417)])
def Ay:Obj:=(fR "check_joined" "check_joined" (top 20))
def vJ:Obj:=(cO "check_joined" "check_joined" 409 410 411 65 2 0 0 3 (.ref 175) true 181 (.ref 176) .none (.ref 177) (.ref 178) (.ref 179) 418 65 419)
def vW:Obj:=(fO "check_joined" "check_joined" (top 20) (.str "pebbletoll.webs" 312) (.ref 180))
def uU:Obj:=(tO #[(.str "roads" 424),(.str "place" 425),(.str "ends" 426),(.str "road" 427)])
def zL:Obj:=(fR "other_ends" "other_ends" (top 21))
def wI:Obj:=(cO "other_ends" "other_ends" 421 422 423 76 2 0 0 3 (.ref 182) true 181 (.ref 183) .none (.ref 184) (.ref 185) (.ref 186) 428 76 429)
def uI:Obj:=(fO "other_ends" "other_ends" (top 21) (.str "pebbletoll.webs" 312) (.ref 187))
def vO:Obj:=(tO #[(.str "web" 436),(.str "numbers" 437)])
def zP:Obj:=(fR "laying_of" "laying_of" (top 23))
def xP:Obj:=(cO "laying_of" "laying_of" 433 434 435 85 2 0 0 3 (.ref 189) true 181 (.ref 190) .none (.ref 191) (.ref 192) (.ref 193) 438 85 439)
def wN:Obj:=(fO "laying_of" "laying_of" (top 23) (.str "pebbletoll.layings" 431) (.ref 194))
def zY:Obj:=(fR "is_filled" "is_filled" (top 24))
def u5:Obj:=(cO "is_filled" "is_filled" 441 442 443 89 2 0 0 3 (.ref 196) true 181 (.ref 197) .none .none .none (.ref 198) 444 89 445)
def wv:Obj:=(fO "is_filled" "is_filled" (top 24) (.str "pebbletoll.layings" 431) (.ref 199))
def Aa:Obj:=(fR "covers" "covers" (top 25))
def wY:Obj:=(cO "covers" "covers" 447 448 449 91 2 0 0 3 (.ref 201) true 181 (.ref 202) .none .none .none (.ref 203) 450 91 451)
def vP:Obj:=(fO "covers" "covers" (top 25) (.str "pebbletoll.layings" 431) (.ref 204))
def xS:Obj:=(tO #[(.str "web" 458),(.str "laying" 459),(.str "steps" 460)])
def AR:Obj:=(fR "walked" "walked" (top 27))
def xK:Obj:=(cO "walked" "walked" 455 456 457 94 3 0 0 3 (.ref 206) true 181 (.ref 207) .none (.ref 208) (.ref 209) (.ref 210) 461 94 462)
def xb:Obj:=(fO "walked" "walked" (top 27) (.str "pebbletoll.steps" 453) (.ref 211))
def wD:Obj:=(tO #[(.str "web" 467),(.str "laying" 468),(.str "steps" 469),(.str "passed" 470),(.str "at" 471),(.str "step" 472)])
def AK:Obj:=(fR "layings" "layings" (top 28))
def uS:Obj:=(cO "layings" "layings" 464 465 466 96 3 0 0 3 (.ref 213) true 181 (.ref 214) .none (.ref 215) (.ref 216) (.ref 217) 473 96 474)
def u7:Obj:=(fO "layings" "layings" (top 28) (.str "pebbletoll.steps" 453) (.ref 218))
def xJ:Obj:=(tO #[(.str "web" 479),(.str "laying" 480),(.str "step" 481)])
def AJ:Obj:=(fR "can_be_done" "can_be_done" (top 29))
def vA:Obj:=(cO "can_be_done" "can_be_done" 476 477 478 103 3 0 0 3 (.ref 220) true 181 (.ref 221) .none (.ref 222) (.ref 223) (.ref 224) 482 103 483)
def uH:Obj:=(fO "can_be_done" "can_be_done" (top 29) (.str "pebbletoll.steps" 453) (.ref 225))
def xY:Obj:=(tO #[(.str "web" 488),(.str "step" 489)])
def AU:Obj:=(fR "is_step" "is_step" (top 30))
def xL:Obj:=(cO "is_step" "is_step" 485 486 487 105 2 0 0 3 (.ref 227) true 181 (.ref 228) .none (.ref 229) (.ref 230) (.ref 231) 490 105 491)
def wB:Obj:=(fO "is_step" "is_step" (top 30) (.str "pebbletoll.steps" 453) (.ref 232))
def vY:Obj:=(tO #[(.str "web" 496),(.str "step" 497)])
def Ah:Obj:=(fR "taken" "taken" (top 31))
def wK:Obj:=(cO "taken" "taken" 493 494 495 107 2 0 0 3 (.ref 234) true 181 (.ref 235) .none (.ref 236) (.ref 237) (.ref 238) 498 107 499)
def uZ:Obj:=(fO "taken" "taken" (top 31) (.str "pebbletoll.steps" 453) (.ref 239))
def yd:Obj:=(tO #[(.str "web" 504),(.str "laying" 505),(.str "step" 506),(.str "counts" 507)])
def AZ:Obj:=(fR "behind" "behind" (top 32))
def xX:Obj:=(cO "behind" "behind" 501 502 503 109 3 0 0 3 (.ref 241) true 181 (.ref 242) .none (.ref 243) (.ref 244) (.ref 245) 508 109 509)
def xk:Obj:=(fO "behind" "behind" (top 32) (.str "pebbletoll.steps" 453) (.ref 246))
def wz:Obj:=(tO #[(.str "web" 516),(.str "r" 517),(.str "nearer" 518),(.str "waiting" 519),(.str "place" 520),(.str "front" 521),(.str "kid" 522)])
def Ax:Obj:=(fR "ahead" "ahead" (top 34))
def xp:Obj:=(cO "ahead" "ahead" 513 514 515 115 2 0 0 3 (.ref 248) true 181 (.ref 249) .none (.ref 250) (.ref 251) (.ref 252) 523 115 524)
def xQ:Obj:=(fO "ahead" "ahead" (top 34) (.str "pebbletoll.ways" 511) (.ref 253))
def uQ:Obj:=(tO #[(.str "web" 529),(.str "r" 530),(.str "nearer" 531),(.str "places" 532),(.str "waiting" 533),(.str "place" 534),(.str "kid" 535)])
def zG:Obj:=(fR "down" "down" (top 35))
def u8:Obj:=(cO "down" "down" 526 527 528 126 2 0 0 3 (.ref 255) true 181 (.ref 256) .none (.ref 257) (.ref 258) (.ref 259) 536 126 537)
def xR:Obj:=(fO "down" "down" (top 35) (.str "pebbletoll.ways" 511) (.ref 260))
def Ai:Obj:=(fR "kids" "kids" (top 36))
def vt:Obj:=(cO "kids" "kids" 539 540 541 136 3 0 0 3 (.ref 262) true 181 (.ref 263) .none .none .none (.ref 264) 542 136 543)
def wc:Obj:=(fO "kids" "kids" (top 36) (.str "pebbletoll.ways" 511) (.ref 265))
def Al:Obj:=(fR "inward" "inward" (top 37))
def uz:Obj:=(cO "inward" "inward" 545 546 547 138 2 0 0 3 (.ref 267) true 181 (.ref 268) .none .none .none (.ref 269) 548 138 549)
def vE:Obj:=(fO "inward" "inward" (top 37) (.str "pebbletoll.ways" 511) (.ref 270))
def uu:Obj:=(tO #[(.str "web" 556),(.str "numbers" 557)])
def zU:Obj:=(fR "wish_of" "wish_of" (top 39))
def wk:Obj:=(cO "wish_of" "wish_of" 553 554 555 142 2 0 0 3 (.ref 272) true 181 (.ref 273) .none (.ref 274) (.ref 275) (.ref 276) 558 142 559)
def uF:Obj:=(fO "wish_of" "wish_of" (top 39) (.str "pebbletoll.wishes" 551) (.ref 277))
def Aq:Obj:=(fR "standings" "standings" (top 40))
def xi:Obj:=(cO "standings" "standings" 561 562 563 146 4 0 0 3 (.ref 279) true 181 (.ref 280) .none .none .none (.ref 281) 564 146 565)
def vh:Obj:=(fO "standings" "standings" (top 40) (.str "pebbletoll.wishes" 551) (.ref 282))
def uJ:Obj:=(tO #[(.str "web" 570),(.str "over" 571),(.str "place" 572),(.str "front" 573)])
def AH:Obj:=(fR "handed_on" "handed_on" (top 41))
def xG:Obj:=(cO "handed_on" "handed_on" 567 568 569 153 4 0 0 3 (.ref 284) true 181 (.ref 285) .none (.ref 286) (.ref 287) (.ref 288) 574 153 575)
def xH:Obj:=(fO "handed_on" "handed_on" (top 41) (.str "pebbletoll.wishes" 551) (.ref 289))
def uD:Obj:=(tO #[(.str "web" 580),(.str "laying" 581),(.str "wish" 582),(.str "r" 583)])
def Az:Obj:=(fR "standing" "standing" (top 42))
def xa:Obj:=(cO "standing" "standing" 577 578 579 157 4 0 0 3 (.ref 291) true 181 (.ref 292) .none (.ref 293) (.ref 294) (.ref 295) 584 157 585)
def vx:Obj:=(fO "standing" "standing" (top 42) (.str "pebbletoll.wishes" 551) (.ref 296))
def ve:Obj:=(tO #[(.str "web" 590),(.str "laying" 591),(.str "wish" 592)])
def Av:Obj:=(fR "is_met" "is_met" (top 43))
def xV:Obj:=(cO "is_met" "is_met" 587 588 589 159 3 0 0 3 (.ref 298) true 181 (.ref 299) .none (.ref 300) (.ref 301) (.ref 302) 593 159 594)
def wC:Obj:=(fO "is_met" "is_met" (top 43) (.str "pebbletoll.wishes" 551) (.ref 303))
def wV:Obj:=(tO #[(.str "web" 599),(.str "laying" 600),(.str "wish" 601)])
def zN:Obj:=(fR "meeting" "meeting" (top 44))
def xB:Obj:=(cO "meeting" "meeting" 596 597 598 161 3 0 0 3 (.ref 305) true 181 (.ref 306) .none (.ref 307) (.ref 308) (.ref 309) 602 161 603)
def uv:Obj:=(fO "meeting" "meeting" (top 44) (.str "pebbletoll.wishes" 551) (.ref 310))
def vU:Obj:=(tO #[(.str "web" 608),(.str "laying" 609),(.str "wish" 610),(.str "r" 611),(.str "over" 612),(.str "steps" 613),(.str "place" 614),(.str "front" 615),(.str "times" 616)])
def AO:Obj:=(fR "steps_in" "steps_in" (top 45))
def xF:Obj:=(cO "steps_in" "steps_in" 605 606 607 165 4 0 0 3 (.ref 312) true 181 (.ref 313) .none (.ref 314) (.ref 315) (.ref 316) 617 165 618)
def xn:Obj:=(fO "steps_in" "steps_in" (top 45) (.str "pebbletoll.wishes" 551) (.ref 317))
def uT:Obj:=(tO #[(.str "web" 623),(.str "laying" 624),(.str "wish" 625),(.str "r" 626),(.str "over" 627),(.str "steps" 628),(.str "place" 629),(.str "front" 630)])
def AN:Obj:=(fR "steps_out" "steps_out" (top 46))
def ww:Obj:=(cO "steps_out" "steps_out" 620 621 622 173 4 0 0 3 (.ref 319) true 181 (.ref 320) .none (.ref 321) (.ref 322) (.ref 323) 631 173 632)
def wL:Obj:=(fO "steps_out" "steps_out" (top 46) (.str "pebbletoll.wishes" 551) (.ref 324))
def AY:Obj:=(fR "lacks_of" "lacks_of" (top 47))
def vX:Obj:=(cO "lacks_of" "lacks_of" 634 635 636 180 3 0 0 3 (.ref 326) true 181 (.ref 327) .none .none .none (.ref 328) 637 180 638)
def wf:Obj:=(fO "lacks_of" "lacks_of" (top 47) (.str "pebbletoll.wishes" 551) (.ref 329))
def wx:Obj:=(tO #[(.str "web" 643),(.str "laying" 644),(.str "wish" 645),(.str "answer" 646),(.str "met" 647)])
def Ap:Obj:=(fR "judged" "judged" (top 48))
def vD:Obj:=(cO "judged" "judged" 640 641 642 182 4 0 0 3 (.ref 331) true 181 (.ref 332) .none (.ref 333) (.ref 334) (.ref 335) 648 182 649)
def uN:Obj:=(fO "judged" "judged" (top 48) (.str "pebbletoll.wishes" 551) (.ref 336))
def wA:Obj:=(tO #[(.str "web" 654),(.str "laying" 655),(.str "wish" 656),(.str "steps" 657),(.str "left" 658)])
def zW:Obj:=(fR "lead_to" "lead_to" (top 49))
def wo:Obj:=(cO "lead_to" "lead_to" 651 652 653 187 4 0 0 3 (.ref 338) true 181 (.ref 339) .none (.ref 340) (.ref 341) (.ref 342) 659 187 660)
def vH:Obj:=(fO "lead_to" "lead_to" (top 49) (.str "pebbletoll.wishes" 551) (.ref 343))
def uE:Obj:=(tO #[(.str "script" 667),(.str "k" 668),(.str "cell" 669),(.str "near" 670),(.str "far" 671)])
def zw:Obj:=(fR "_law_drawn" "_law_drawn" (top 51))
def xO:Obj:=(cO "_law_drawn" "_law_drawn" 664 665 666 194 2 0 0 3 (.ref 345) true 181 (.ref 346) .none (.ref 347) (.ref 348) (.ref 349) 672 194 673)
def vV:Obj:=(fO "_law_drawn" "_law_drawn" (top 51) (.str "law_pebbletoll_k29_wishes_refused" 662) (.ref 350))
def wq:Obj:=(tO #[(.str "part" 678)])
def zT:Obj:=(fR "_law_toll" "_law_toll" (top 52))
def xN:Obj:=(cO "_law_toll" "_law_toll" 675 676 677 203 1 0 0 3 (.ref 352) true 181 (.ref 353) .none (.ref 354) (.ref 355) (.ref 356) 679 203 680)
def xm:Obj:=(fO "_law_toll" "_law_toll" (top 52) (.str "law_pebbletoll_k29_wishes_refused" 662) (.ref 357))
def u9:Obj:=(tO #[(.str "script" 685),(.str "many" 686),(.str "shape" 687),(.str "roads" 688),(.str "k" 689),(.str "part" 690),(.str "to" 691),(.str "there" 692),(.str "back" 693)])
def zK:Obj:=(fR "_law_roads" "_law_roads" (top 53))
def wa:Obj:=(cO "_law_roads" "_law_roads" 682 683 684 207 3 0 0 3 (.ref 359) true 181 (.ref 360) .none (.ref 361) (.ref 362) (.ref 363) 694 207 695)
def xC:Obj:=(fO "_law_roads" "_law_roads" (top 53) (.str "law_pebbletoll_k29_wishes_refused" 662) (.ref 364))
def uL:Obj:=(tO #[(.str "script" 700),(.str "reach" 701),(.str "head" 702),(.str "many" 703)])
def AB:Obj:=(fR "_law_web" "_law_web" (top 54))
def vR:Obj:=(cO "_law_web" "_law_web" 697 698 699 222 2 0 0 3 (.ref 366) true 181 (.ref 367) .none (.ref 368) (.ref 369) (.ref 370) 704 222 705)
def wG:Obj:=(fO "_law_web" "_law_web" (top 54) (.str "law_pebbletoll_k29_wishes_refused" 662) (.ref 371))
def wT:Obj:=(tO #[(.str "script" 710),(.str "head" 711)])
def zX:Obj:=(fR "_law_bound" "_law_bound" (top 55))
def vb:Obj:=(cO "_law_bound" "_law_bound" 707 708 709 228 1 0 0 3 (.ref 373) true 181 (.ref 374) .none (.ref 375) (.ref 376) (.ref 377) 712 228 713)
def wt:Obj:=(fO "_law_bound" "_law_bound" (top 55) (.str "law_pebbletoll_k29_wishes_refused" 662) (.ref 378))
def xI:Obj:=(tO #[(.str "script" 718),(.str "many" 719),(.str "bound" 720),(.str "laying" 721),(.str "k" 722),(.str "place" 723)])
def zZ:Obj:=(fR "_law_laying" "_law_laying" (top 56))
def xE:Obj:=(cO "_law_laying" "_law_laying" 715 716 717 231 3 0 0 3 (.ref 380) true 181 (.ref 381) .none (.ref 382) (.ref 383) (.ref 384) 724 231 725)
def vG:Obj:=(fO "_law_laying" "_law_laying" (top 56) (.str "law_pebbletoll_k29_wishes_refused" 662) (.ref 385))
def vL:Obj:=(tO #[(.str "script" 730),(.str "many" 731),(.str "bound" 732),(.str "wish" 733),(.str "k" 734),(.str "place" 735)])
def zV:Obj:=(fR "_law_wish" "_law_wish" (top 57))
def vN:Obj:=(cO "_law_wish" "_law_wish" 727 728 729 238 3 0 0 3 (.ref 387) true 181 (.ref 388) .none (.ref 389) (.ref 390) (.ref 391) 736 238 737)
def wU:Obj:=(fO "_law_wish" "_law_wish" (top 57) (.str "law_pebbletoll_k29_wishes_refused" 662) (.ref 392))
def vM:Obj:=(tO #[(.str "numbers" 742),(.str "cell" 743),(.str "at" 744),(.str "made" 745)])
def zB:Obj:=(fR "_law_spoilt" "_law_spoilt" (top 58))
def xt:Obj:=(cO "_law_spoilt" "_law_spoilt" 739 740 741 245 2 0 0 3 (.ref 394) true 181 (.ref 395) .none (.ref 396) (.ref 397) (.ref 398) 746 245 747)
def vk:Obj:=(fO "_law_spoilt" "_law_spoilt" (top 58) (.str "law_pebbletoll_k29_wishes_refused" 662) (.ref 399))
def wW:Obj:=(tO #[(.str "sort" 752),(.str "web" 753),(.str "laying" 754),(.str "wish" 755),(.str "r" 756)])
def z9:Obj:=(fR "_law_asked" "_law_asked" (top 59))
def wM:Obj:=(cO "_law_asked" "_law_asked" 749 750 751 259 5 0 0 3 (.ref 401) true 181 (.ref 402) .none (.ref 403) (.ref 404) (.ref 405) 757 259 758)
def vl:Obj:=(fO "_law_asked" "_law_asked" (top 59) (.str "law_pebbletoll_k29_wishes_refused" 662) (.ref 406))
def wX:Obj:=(tO #[(.str "sort" 763),(.str "web" 764),(.str "laying" 765),(.str "wish" 766),(.str "r" 767),(.str "kinds" 768),(.str "e" 769)])
def AG:Obj:=(fR "_law_kinds" "_law_kinds" (top 60))
def vF:Obj:=(cO "_law_kinds" "_law_kinds" 760 761 762 271 5 0 0 3 (.ref 408) true 181 (.ref 409) .none (.ref 410) (.ref 411) (.ref 412) 770 271 771)
def vQ:Obj:=(fO "_law_kinds" "_law_kinds" (top 60) (.str "law_pebbletoll_k29_wishes_refused" 662) (.ref 413))
def wH:Obj:=(tO #[(.str "script" 776),(.str "many" 777),(.str "roads" 778),(.str "web" 779),(.str "bound" 780),(.str "laying" 781),(.str "wish" 782),(.str "cell" 783),(.str "no_laying" 784),(.str "no_wish" 785),(.str "no_place" 786),(.str "k" 787),(.str "bad" 788),(.str "place" 789),(.str "sort" 790),(.str "some" 791),(.str "told" 792),(.str "r" 793)])
def zy:Obj:=(fR "law" "law" (top 61))
def uK:Obj:=(cO "law" "law" 773 774 775 279 1 0 0 3 (.ref 415) true 181 (.ref 416) .none (.ref 417) (.ref 418) (.ref 419) 794 279 795)
def wu:Obj:=(fO "law" "law" (top 61) (.str "law_pebbletoll_k29_wishes_refused" 662) (.ref 420))
noncomputable def h1 (P:Params):Heap:=.mk (.mk (boot_o_0 P :: boot_o_1 P :: boot_o_2 P :: uG P :: boot_o_4 P :: boot_o_5 P :: boot_o_6 P :: boot_o_7 P :: boot_o_8 P :: boot_o_9 P :: boot_o_10 P :: x0 :: AV :: x2 :: x3 :: x6 :: x7 :: x8 P :: x0 :: x1 :: x9 :: x10 :: x0 :: x11 P :: x12 :: x13 :: x14 :: x15 :: x16 :: x7 :: x17 P :: x0 :: x1 :: x18 :: x19 :: x0 :: x20 P :: x21 :: x22 :: x23 :: x16 :: x7 :: x24 P :: x0 :: x1 :: x25 :: x26 :: x0 :: x27 P :: x28 :: x29 :: x30 :: x16 :: x7 :: x31 P :: x0 :: x1 :: x32 :: x33 :: x0 :: x34 P :: x35 :: x36 :: x37 :: x16 :: x7 :: x38 P :: x0 :: x1 :: x39 :: x40 :: x0 :: x41 P :: x42 :: x43 :: x44 :: x16 :: x7 :: x45 P :: x0 :: x1 :: x46 :: x47 :: x0 :: x48 P :: x49 :: x50 :: x51 :: x16 :: x7 :: x52 P :: x0 :: x53 :: x54 :: x55 :: x0 :: x1 :: x56 :: x0 :: x57 :: x58 :: x59 :: x60 :: x61 P :: x62 :: x63 :: x64 :: x0 :: x7 :: x65 P :: x0 :: x66 :: x67 :: x68 :: x0 :: x1 :: x69 :: x70 :: x71 :: x72 :: x73 P :: x74 :: x75 :: x76 :: x77 :: x78 :: x0 :: x1 :: x79 :: x0 :: x80 :: x81 :: x82 :: x0 :: x1 :: x83 :: x0 :: x84 :: x85 :: x86 :: x0 :: x1 :: x87 :: x0 :: x88 :: x89 :: x90 :: x0 :: x1 :: x91 :: x0 :: x92 :: x93 :: x94 :: x0 :: x1 :: x95 :: x0 :: x96 :: x97 :: x98 :: x0 :: x1 :: x99 :: x0 :: vB :: sd :: rC :: x0 :: x1 :: rX :: x0 :: xx :: re :: rp :: x0 :: x1 :: wp :: x0 :: Ay :: vJ :: vW :: x0 :: x1 :: uU :: x0 :: zL :: wI :: uI :: x0 :: x1 :: vO :: x0 :: zP :: xP :: wN :: x0 :: x1 :: zY :: u5 :: wv :: x0 :: x1 :: Aa :: wY :: vP :: x0 :: x1 :: xS :: x0 :: AR :: xK :: xb :: x0 :: x1 :: wD :: x0 :: AK :: uS :: u7 :: x0 :: x1 :: xJ :: x0 :: AJ :: vA :: uH :: x0 :: x1 :: xY :: x0 :: AU :: xL :: wB :: x0 :: x1 :: vY :: x0 :: Ah :: wK :: uZ :: x0 :: x1 :: yd :: x0 :: AZ :: xX :: xk :: x0 :: x1 :: wz :: x0 :: Ax :: xp :: xQ :: x0 :: x1 :: uQ :: x0 :: zG :: u8 :: xR :: x0 :: x1 :: Ai :: vt :: wc :: x0 :: x1 :: Al :: uz :: vE :: x0 :: x1 :: uu :: x0 :: zU :: wk :: uF :: x0 :: x1 :: Aq :: xi :: vh :: x0 :: x1 :: uJ :: x0 :: AH :: xG :: xH :: x0 :: x1 :: uD :: x0 :: Az :: xa :: vx :: x0 :: x1 :: ve :: x0 :: Av :: xV :: wC :: x0 :: x1 :: wV :: x0 :: zN :: xB :: uv :: x0 :: x1 :: vU :: x0 :: AO :: xF :: xn :: x0 :: x1 :: uT :: x0 :: AN :: ww :: wL :: x0 :: x1 :: AY :: vX :: wf :: x0 :: x1 :: wx :: x0 :: Ap :: vD :: uN :: x0 :: x1 :: wA :: x0 :: zW :: wo :: vH :: x0 :: x1 :: uE :: x0 :: zw :: xO :: vV :: x0 :: x1 :: wq :: x0 :: zT :: xN :: xm :: x0 :: x1 :: u9 :: x0 :: zK :: wa :: xC :: x0 :: x1 :: uL :: x0 :: AB :: vR :: wG :: x0 :: x1 :: wT :: x0 :: zX :: vb :: wt :: x0 :: x1 :: xI :: x0 :: zZ :: xE :: vG :: x0 :: x1 :: vL :: x0 :: zV :: vN :: wU :: x0 :: x1 :: vM :: x0 :: zB :: xt :: vk :: x0 :: x1 :: wW :: x0 :: z9 :: wM :: vl :: x0 :: x1 :: wX :: x0 :: AG :: vF :: vQ :: x0 :: x1 :: wH :: x0 :: zy :: uK :: wu :: [])) (.mk [] [] [] 0 [] [] false #[] [] 0 false false false 0 [2000,10,10] false 0 true [] [] 0 false)
theorem Bg (w:World) (os:OsState):segRun treeTable PySem.Challenge.pw_pebbletoll_k29_wishes_refused w 11 (some (.ref 6)) 1 1226 (Shared.mk (h0 w.params) (.mk []) (.mk 0 0 0 0) 409 os) (piecesOf st1 env cE (.mk 61 0 64 55) [topFrame (.mk 0 0 0 0)])=some (.next,(Shared.mk (h1 w.params) (.mk []) (.mk 0 0 0 0) 797 os),cE,(.mk 279 0 305 15)):=by kernel_rfl
noncomputable def hf (P:Params):Heap:=.mk (.mk (boot_o_0 P :: boot_o_1 P :: boot_o_2 P :: uG P :: boot_o_4 P :: boot_o_5 P :: boot_o_6 P :: boot_o_7 P :: boot_o_8 P :: boot_o_9 P :: boot_o_10 P :: x0 :: AV :: x2 :: x3 :: x6 :: x7 :: x8 P :: x0 :: x1 :: x9 :: x10 :: x0 :: x11 P :: x12 :: x13 :: x14 :: x15 :: x16 :: x7 :: x17 P :: x0 :: x1 :: x18 :: x19 :: x0 :: x20 P :: x21 :: x22 :: x23 :: x16 :: x7 :: x24 P :: x0 :: x1 :: x25 :: x26 :: x0 :: x27 P :: x28 :: x29 :: x30 :: x16 :: x7 :: x31 P :: x0 :: x1 :: x32 :: x33 :: x0 :: x34 P :: x35 :: x36 :: x37 :: x16 :: x7 :: x38 P :: x0 :: x1 :: x39 :: x40 :: x0 :: x41 P :: x42 :: x43 :: x44 :: x16 :: x7 :: x45 P :: x0 :: x1 :: x46 :: x47 :: x0 :: x48 P :: x49 :: x50 :: x51 :: x16 :: x7 :: x52 P :: x0 :: x53 :: x54 :: x55 :: x0 :: x1 :: x56 :: x0 :: x57 :: x58 :: x59 :: x60 :: x61 P :: x62 :: x63 :: x64 :: x0 :: x7 :: x65 P :: x0 :: x66 :: x67 :: x68 :: x0 :: x1 :: x69 :: x70 :: x71 :: x72 :: x73 P :: x74 :: x75 :: x76 :: x77 :: x78 :: x0 :: x1 :: x79 :: x0 :: x80 :: x81 :: x82 :: x0 :: x1 :: x83 :: x0 :: x84 :: x85 :: x86 :: x0 :: x1 :: x87 :: x0 :: x88 :: x89 :: x90 :: x0 :: x1 :: x91 :: x0 :: x92 :: x93 :: x94 :: x0 :: x1 :: x95 :: x0 :: x96 :: x97 :: x98 :: x0 :: x1 :: x99 :: x0 :: vB :: sd :: rC :: x0 :: x1 :: rX :: x0 :: xx :: re :: rp :: x0 :: x1 :: wp :: x0 :: Ay :: vJ :: vW :: x0 :: x1 :: uU :: x0 :: zL :: wI :: uI :: x0 :: x1 :: vO :: x0 :: zP :: xP :: wN :: x0 :: x1 :: zY :: u5 :: wv :: x0 :: x1 :: Aa :: wY :: vP :: x0 :: x1 :: xS :: x0 :: AR :: xK :: xb :: x0 :: x1 :: wD :: x0 :: AK :: uS :: u7 :: x0 :: x1 :: xJ :: x0 :: AJ :: vA :: uH :: x0 :: x1 :: xY :: x0 :: AU :: xL :: wB :: x0 :: x1 :: vY :: x0 :: Ah :: wK :: uZ :: x0 :: x1 :: yd :: x0 :: AZ :: xX :: xk :: x0 :: x1 :: wz :: x0 :: Ax :: xp :: xQ :: x0 :: x1 :: uQ :: x0 :: zG :: u8 :: xR :: x0 :: x1 :: Ai :: vt :: wc :: x0 :: x1 :: Al :: uz :: vE :: x0 :: x1 :: uu :: x0 :: zU :: wk :: uF :: x0 :: x1 :: Aq :: xi :: vh :: x0 :: x1 :: uJ :: x0 :: AH :: xG :: xH :: x0 :: x1 :: uD :: x0 :: Az :: xa :: vx :: x0 :: x1 :: ve :: x0 :: Av :: xV :: wC :: x0 :: x1 :: wV :: x0 :: zN :: xB :: uv :: x0 :: x1 :: vU :: x0 :: AO :: xF :: xn :: x0 :: x1 :: uT :: x0 :: AN :: ww :: wL :: x0 :: x1 :: AY :: vX :: wf :: x0 :: x1 :: wx :: x0 :: Ap :: vD :: uN :: x0 :: x1 :: wA :: x0 :: zW :: wo :: vH :: x0 :: x1 :: uE :: x0 :: zw :: xO :: vV :: x0 :: x1 :: wq :: x0 :: zT :: xN :: xm :: x0 :: x1 :: u9 :: x0 :: zK :: wa :: xC :: x0 :: x1 :: uL :: x0 :: AB :: vR :: wG :: x0 :: x1 :: wT :: x0 :: zX :: vb :: wt :: x0 :: x1 :: xI :: x0 :: zZ :: xE :: vG :: x0 :: x1 :: vL :: x0 :: zV :: vN :: wU :: x0 :: x1 :: vM :: x0 :: zB :: xt :: vk :: x0 :: x1 :: wW :: x0 :: z9 :: wM :: vl :: x0 :: x1 :: wX :: x0 :: AG :: vF :: vQ :: x0 :: x1 :: wH :: x0 :: zy :: uK :: wu :: [])) (.mk [] [] [] 0 [] [] false #[] [] 0 false false false 0 [2000,10,10] false 0 true [] [] 0 false)
theorem Bb (w:World) (os:OsState):topRun treeTable PySem.Challenge.pw_pebbletoll_k29_wishes_refused w 11 (some (.ref 6)) 2 (Shared.mk (h1 w.params) (.mk []) (.mk 0 0 0 0) 797 os) (restOf [] env cE (.mk 279 0 305 15) [topFrame (.mk 0 0 0 0)])=some (Shared.mk (hf w.params) (.mk []) (.mk 0 0 0 0) 797 os):=by kernel_rfl
theorem run (w:World) (os:OsState):topRun treeTable PySem.Challenge.pw_pebbletoll_k29_wishes_refused w 11 (some (.ref 6)) (12 + (1 + (1976 + (1226 + (2))))) (Shared.mk (boot_heap w.params) (.mk []) boot_drawn boot_toks os) (topStub PySem.Challenge.pw_pebbletoll_k29_wishes_refused)=some (Shared.mk (hf w.params) (.mk []) (.mk 0 0 0 0) 797 os):=go_top (Bm w os) (piece_block (Ba w os) (piece_app (Bk w os) (piece_app (Bg w os) (Bb w os))))
theorem opn:∀ w:World,(fencedOpening treeTable PySem.Challenge.pw_pebbletoll_k29_wishes_refused w 6526).map (fun s=>(s.heap,s.gens,s.drawn,s.toks))=some (boot_heap w.params,Array.mk [],boot_drawn,boot_toks):=boot_open (by kernel_rfl) (by decide) fun s=>by kernel_rfl
theorem siz (w:World):((boot_heap w.params).isNs mainGlobals && (Array.mk ([]:List GenState)).size == 0,(boot_heap w.params).objs.size,(boot_heap w.params).nsMap mainGlobals "__annotations__")=(true,11,(some (.ref 6))):=by kernel_rfl
noncomputable def KK:Params→Frag:=fun P =>
 (nat_lit 2,boot_o_2 P) ::
 (nat_lit 3,uG P) ::
 (nat_lit 15,x6) ::
 (nat_lit 22,x0) ::
 (nat_lit 23,x11 P) ::
 (nat_lit 24,x12) ::
 (nat_lit 25,x13) ::
 (nat_lit 28,x16) ::
 (nat_lit 35,x0) ::
 (nat_lit 36,x20 P) ::
 (nat_lit 37,x21) ::
 (nat_lit 40,x16) ::
 (nat_lit 47,x0) ::
 (nat_lit 48,x27 P) ::
 (nat_lit 49,x28) ::
 (nat_lit 52,x16) ::
 (nat_lit 59,x0) ::
 (nat_lit 60,x34 P) ::
 (nat_lit 61,x35) ::
 (nat_lit 64,x16) ::
 (nat_lit 71,x0) ::
 (nat_lit 72,x41 P) ::
 (nat_lit 73,x42) ::
 (nat_lit 76,x16) ::
 (nat_lit 83,x0) ::
 (nat_lit 84,x48 P) ::
 (nat_lit 85,x49) ::
 (nat_lit 88,x16) ::
 (nat_lit 95,x0) ::
 (nat_lit 97,x56) ::
 (nat_lit 98,x0) ::
 (nat_lit 100,x58) ::
 (nat_lit 101,x59) ::
 (nat_lit 102,x60) ::
 (nat_lit 103,x61 P) ::
 (nat_lit 104,x62) ::
 (nat_lit 114,x0) ::
 (nat_lit 117,x70) ::
 (nat_lit 118,x71) ::
 (nat_lit 119,x72) ::
 (nat_lit 120,x73 P) ::
 (nat_lit 121,x74) ::
 (nat_lit 122,x75) ::
 (nat_lit 123,x76) ::
 (nat_lit 126,x0) ::
 (nat_lit 128,x79) ::
 (nat_lit 129,x0) ::
 (nat_lit 131,x81) ::
 (nat_lit 132,x82) ::
 (nat_lit 133,x0) ::
 (nat_lit 135,x83) ::
 (nat_lit 136,x0) ::
 (nat_lit 138,x85) ::
 (nat_lit 139,x86) ::
 (nat_lit 140,x0) ::
 (nat_lit 142,x87) ::
 (nat_lit 143,x0) ::
 (nat_lit 145,x89) ::
 (nat_lit 146,x90) ::
 (nat_lit 147,x0) ::
 (nat_lit 149,x91) ::
 (nat_lit 150,x0) ::
 (nat_lit 152,x93) ::
 (nat_lit 153,x94) ::
 (nat_lit 154,x0) ::
 (nat_lit 156,x95) ::
 (nat_lit 157,x0) ::
 (nat_lit 159,x97) ::
 (nat_lit 160,x98) ::
 (nat_lit 161,x0) ::
 (nat_lit 163,x99) ::
 (nat_lit 164,x0) ::
 (nat_lit 166,sd) ::
 (nat_lit 167,rC) ::
 (nat_lit 168,x0) ::
 (nat_lit 170,rX) ::
 (nat_lit 171,x0) ::
 (nat_lit 173,re) ::
 (nat_lit 174,rp) ::
 (nat_lit 175,x0) ::
 (nat_lit 177,wp) ::
 (nat_lit 178,x0) ::
 (nat_lit 180,vJ) ::
 (nat_lit 181,vW) ::
 (nat_lit 182,x0) ::
 (nat_lit 184,uU) ::
 (nat_lit 185,x0) ::
 (nat_lit 187,wI) ::
 (nat_lit 188,uI) ::
 (nat_lit 189,x0) ::
 (nat_lit 191,vO) ::
 (nat_lit 192,x0) ::
 (nat_lit 194,xP) ::
 (nat_lit 195,wN) ::
 (nat_lit 196,x0) ::
 (nat_lit 199,u5) ::
 (nat_lit 200,wv) ::
 (nat_lit 201,x0) ::
 (nat_lit 204,wY) ::
 (nat_lit 205,vP) ::
 (nat_lit 206,x0) ::
 (nat_lit 208,xS) ::
 (nat_lit 209,x0) ::
 (nat_lit 211,xK) ::
 (nat_lit 212,xb) ::
 (nat_lit 213,x0) ::
 (nat_lit 215,wD) ::
 (nat_lit 216,x0) ::
 (nat_lit 218,uS) ::
 (nat_lit 219,u7) ::
 (nat_lit 220,x0) ::
 (nat_lit 222,xJ) ::
 (nat_lit 223,x0) ::
 (nat_lit 225,vA) ::
 (nat_lit 226,uH) ::
 (nat_lit 227,x0) ::
 (nat_lit 229,xY) ::
 (nat_lit 230,x0) ::
 (nat_lit 232,xL) ::
 (nat_lit 233,wB) ::
 (nat_lit 234,x0) ::
 (nat_lit 236,vY) ::
 (nat_lit 237,x0) ::
 (nat_lit 239,wK) ::
 (nat_lit 240,uZ) ::
 (nat_lit 241,x0) ::
 (nat_lit 243,yd) ::
 (nat_lit 244,x0) ::
 (nat_lit 246,xX) ::
 (nat_lit 247,xk) ::
 (nat_lit 248,x0) ::
 (nat_lit 250,wz) ::
 (nat_lit 251,x0) ::
 (nat_lit 253,xp) ::
 (nat_lit 254,xQ) ::
 (nat_lit 255,x0) ::
 (nat_lit 257,uQ) ::
 (nat_lit 258,x0) ::
 (nat_lit 260,u8) ::
 (nat_lit 261,xR) ::
 (nat_lit 262,x0) ::
 (nat_lit 265,vt) ::
 (nat_lit 266,wc) ::
 (nat_lit 267,x0) ::
 (nat_lit 270,uz) ::
 (nat_lit 271,vE) ::
 (nat_lit 272,x0) ::
 (nat_lit 274,uu) ::
 (nat_lit 275,x0) ::
 (nat_lit 277,wk) ::
 (nat_lit 278,uF) ::
 (nat_lit 279,x0) ::
 (nat_lit 282,xi) ::
 (nat_lit 283,vh) ::
 (nat_lit 284,x0) ::
 (nat_lit 286,uJ) ::
 (nat_lit 287,x0) ::
 (nat_lit 289,xG) ::
 (nat_lit 290,xH) ::
 (nat_lit 291,x0) ::
 (nat_lit 293,uD) ::
 (nat_lit 294,x0) ::
 (nat_lit 296,xa) ::
 (nat_lit 297,vx) ::
 (nat_lit 298,x0) ::
 (nat_lit 300,ve) ::
 (nat_lit 301,x0) ::
 (nat_lit 303,xV) ::
 (nat_lit 304,wC) ::
 (nat_lit 305,x0) ::
 (nat_lit 307,wV) ::
 (nat_lit 308,x0) ::
 (nat_lit 310,xB) ::
 (nat_lit 311,uv) ::
 (nat_lit 312,x0) ::
 (nat_lit 314,vU) ::
 (nat_lit 315,x0) ::
 (nat_lit 317,xF) ::
 (nat_lit 318,xn) ::
 (nat_lit 319,x0) ::
 (nat_lit 321,uT) ::
 (nat_lit 322,x0) ::
 (nat_lit 324,ww) ::
 (nat_lit 325,wL) ::
 (nat_lit 326,x0) ::
 (nat_lit 329,vX) ::
 (nat_lit 330,wf) ::
 (nat_lit 331,x0) ::
 (nat_lit 333,wx) ::
 (nat_lit 334,x0) ::
 (nat_lit 336,vD) ::
 (nat_lit 337,uN) ::
 (nat_lit 338,x0) ::
 (nat_lit 340,wA) ::
 (nat_lit 341,x0) ::
 (nat_lit 343,wo) ::
 (nat_lit 344,vH) ::
 (nat_lit 345,x0) ::
 (nat_lit 347,uE) ::
 (nat_lit 348,x0) ::
 (nat_lit 350,xO) ::
 (nat_lit 351,vV) ::
 (nat_lit 352,x0) ::
 (nat_lit 354,wq) ::
 (nat_lit 355,x0) ::
 (nat_lit 357,xN) ::
 (nat_lit 358,xm) ::
 (nat_lit 359,x0) ::
 (nat_lit 361,u9) ::
 (nat_lit 362,x0) ::
 (nat_lit 364,wa) ::
 (nat_lit 365,xC) ::
 (nat_lit 366,x0) ::
 (nat_lit 368,uL) ::
 (nat_lit 369,x0) ::
 (nat_lit 371,vR) ::
 (nat_lit 372,wG) ::
 (nat_lit 373,x0) ::
 (nat_lit 375,wT) ::
 (nat_lit 376,x0) ::
 (nat_lit 378,vb) ::
 (nat_lit 379,wt) ::
 (nat_lit 380,x0) ::
 (nat_lit 382,xI) ::
 (nat_lit 383,x0) ::
 (nat_lit 385,xE) ::
 (nat_lit 386,vG) ::
 (nat_lit 387,x0) ::
 (nat_lit 389,vL) ::
 (nat_lit 390,x0) ::
 (nat_lit 392,vN) ::
 (nat_lit 393,wU) ::
 (nat_lit 394,x0) ::
 (nat_lit 396,vM) ::
 (nat_lit 397,x0) ::
 (nat_lit 399,xt) ::
 (nat_lit 400,vk) ::
 (nat_lit 401,x0) ::
 (nat_lit 403,wW) ::
 (nat_lit 404,x0) ::
 (nat_lit 406,wM) ::
 (nat_lit 407,vl) ::
 (nat_lit 408,x0) ::
 (nat_lit 410,wX) ::
 (nat_lit 411,x0) ::
 (nat_lit 413,vF) ::
 (nat_lit 414,vQ) ::
 (nat_lit 415,x0) ::
 (nat_lit 417,wH) ::
 (nat_lit 418,x0) ::
 (nat_lit 420,uK) ::
 (nat_lit 421,wu) :: []
abbrev qq:Program:=PySem.W.view PySem.Challenge.pw_pebbletoll_k29_wishes_refused [1,2,3,4,5,6,7,9,10,11,12,13,14,15,16,17,18,19,20,21,23,24,25,27,28,29,30,31,32,34,35,36,37,39,40,41,42,43,44,45,46,47,48,49,51,52,53,54,55,56,57,58,59,60,61]
abbrev asK:List Addr:=[2,3,15,22,23,24,25,28,35,36,37,40,47,48,49,52,59,60,61,64,71,72,73,76,83,84,85,88,95,97,98,100,101,102,103,104,114,117,118,119,120,121,122,123,126,128,129,131,132,133,135,136,138,139,140,142,143,145,146,147,149,150,152,153,154,156,157,159,160,161,163,164,166,167,168,170,171,173,174,175,177,178,180,181,182,184,185,187,188,189,191,192,194,195,196,199,200,201,204,205,206,208,209,211,212,213,215,216,218,219,220,222,223,225,226,227,229,230,232,233,234,236,237,239,240,241,243,244,246,247,248,250,251,253,254,255,257,258,260,261,262,265,266,267,270,271,272,274,275,277,278,279,282,283,284,286,287,289,290,291,293,294,296,297,298,300,301,303,304,305,307,308,310,311,312,314,315,317,318,319,321,322,324,325,326,329,330,331,333,334,336,337,338,340,341,343,344,345,347,348,350,351,352,354,355,357,358,359,361,362,364,365,366,368,369,371,372,373,375,376,378,379,380,382,383,385,386,387,389,390,392,393,394,396,397,399,400,401,403,404,406,407,408,410,411,413,414,415,417,418,420,421]
theorem asK_eq:∀ P,asK=(KK P).map (·.1):=fun _=>by kernel_rfl
theorem A9 (w:World):(fun os=>((staticsOk (importedModules PySem.Challenge.pw_pebbletoll_k29_wishes_refused.main.body) (boot_heap w.params) (hf w.params) && namesBound PySem.Challenge.pw_pebbletoll_k29_wishes_refused (hf w.params) && gensDone (Shared.mk (Hd.hf w.params) (.mk []) (.mk 0 0 0 0) 797 os) && laidKept (boot_heap w.params) (hf w.params)),openSeen qq [] (importedModules PySem.Challenge.pw_pebbletoll_k29_wishes_refused.main.body) (fun s=>PySem.W.xlAt Hd.qq [] s && PySem.W.recOk (PySem.W.RowW.records (PySem.W.OpenRow.toRowW (PySem.Challenge.rw_pebbletoll_k29_wishes_refused).row)) s) true (Shared.mk (Hd.hf w.params) (.mk []) (.mk 0 0 0 0) 797 os),Hook.obs (PySem.W.kHook Hd.KK Hd.asK Hd.asK_eq) (Shared.mk (Hd.hf w.params) (.mk []) (.mk 0 0 0 0) 797 os)))=fun _=>(true,openGood qq [],Hook.val (PySem.W.kHook Hd.KK Hd.asK Hd.asK_eq) w):=by kernel_rfl
theorem left:PySem.W.LeftO (PySem.Challenge.rw_pebbletoll_k29_wishes_refused).row.prog qq [] (fun s=>PySem.W.xlAt Hd.qq [] s && PySem.W.recOk (PySem.W.RowW.records (PySem.W.OpenRow.toRowW (PySem.Challenge.rw_pebbletoll_k29_wishes_refused).row)) s) (PySem.W.Hook.obs (PySem.W.kHook Hd.KK Hd.asK Hd.asK_eq)) (PySem.W.Hook.val (PySem.W.kHook Hd.KK Hd.asK Hd.asK_eq)) 6526:=LeftO.of_pieces opn siz run (by decide) A9
end Hd
set_option Elab.async false
set_option linter.all false
set_option maxRecDepth 100000
namespace L2
open PySem PySem.Spec PyProof.Rows
abbrev Key:=Sum Int Str
def jE:Key→Value→Bool
 | .inl k,v=>Value.isInt k v
 | .inr x,v=>Value.isStrOf x v
def Bl (w:World):Key→Int
 | .inl k=>hashInt k
 | .inr x=>hashStr w x
theorem cB:∀ {k:Key} {v:Value},jE k v=true→(∃ i t,k=Sum.inl i∧v=Value.int i t)∨(∃ x t,k=Sum.inr x∧v=Value.str x t)
 | .inl i,v,h=>by
   obtain ⟨t,e⟩:=Value.isInt_shape (k:=i) (v:=v) h
   exact .inl ⟨i,t,rfl,e⟩
 | .inr x,v,h=>by
   obtain ⟨t,e⟩:=Value.isStrOf_shape (x:=x) (v:=v) h
   exact .inr ⟨x,t,rfl,e⟩
theorem ug (i:Int) (t:Tok):jE (.inl i) (.int i t)=true:=by simp [jE,Value.isInt]
theorem tE (x:Str) (t:Tok):jE (.inr x) (.str x t)=true:=by simp [jE,Value.isStrOf]
theorem Ar (a b:Int):decide ((Sum.inl a:Key)=Sum.inl b)=(a == b):=by
 by_cases e:a=b
 · subst e; simp
 · have h:¬ (Sum.inl a:Key)=Sum.inl b:=fun q=>e (Sum.inl.inj q)
   rw [decide_eq_false h]
   exact (beq_eq_false_iff_ne.mpr e).symm
theorem zz (a b:Str):decide ((Sum.inr a:Key)=Sum.inr b)=decide (a=b):=by
 by_cases e:a=b
 · subst e; simp
 · have h:¬ (Sum.inr a:Key)=Sum.inr b:=fun q=>e (Sum.inr.inj q)
   rw [decide_eq_false h,decide_eq_false e]
theorem AA (a:Int) (b:Str):decide ((Sum.inl a:Key)=Sum.inr b)=false:=decide_eq_false (fun q=>nomatch q)
theorem Ae (a:Str) (b:Int):decide ((Sum.inr a:Key)=Sum.inl b)=false:=decide_eq_false (fun q=>nomatch q)
def ck (prog:Program) (w:World):PySem.KeyKind prog w Key where
 is:=jE
 hash:=Bl w
 inj:=fun v a b ha hb=>by
   rcases cB ha with ⟨i,t,rfl,rfl⟩ | ⟨x,t,rfl,rfl⟩
   · rcases cB hb with ⟨j,u,rfl,e⟩ | ⟨y,u,rfl,e⟩
     · injection e with e1 _; rw [e1]
     · exact nomatch e
   · rcases cB hb with ⟨j,u,rfl,e⟩ | ⟨y,u,rfl,e⟩
     · exact nomatch e
     · injection e with e1 _; rw [e1]
 byValue:=fun k v h=>by
   rcases cB h with ⟨i,t,rfl,rfl⟩ | ⟨x,t,rfl,rfl⟩ <;> rfl
 pyHash:=fun hv h=>by
   rcases cB hv with ⟨i,t,rfl,rfl⟩ | ⟨x,t,rfl,rfl⟩
   · exact wpAny_pyHash_int h
   · exact wpAny_pyHash_str h
 eqBool:=fun hu hv h=>by
   rcases cB hu with ⟨i,t,rfl,rfl⟩ | ⟨x,t,rfl,rfl⟩
   · rcases cB hv with ⟨j,u,rfl,rfl⟩ | ⟨y,u,rfl,rfl⟩
     · rw [Ar] at h; exact wpAny_eqBool_int h
     · rw [AA] at h; exact SeqAt.EqAt.int_str i t y u _ _ _ _ h
   · rcases cB hv with ⟨j,u,rfl,rfl⟩ | ⟨y,u,rfl,rfl⟩
     · rw [Ae] at h; exact SeqAt.EqAt.str_int x t j u _ _ _ _ h
     · rw [zz] at h; exact wpAny_eqBool_str h
 «strs»:=fun k x t v h=>by
   rcases cB h with ⟨i,u,rfl,e⟩ | ⟨y,u,rfl,e⟩
   · exact nomatch e
   · injection e with e1 _
     subst e1
     cases v <;> rfl
theorem qf (prog:Program) (w:World) (i:Int) (t:Tok):(ck prog w).is (.inl i) (.int i t)=true:=ug i t
theorem p9 (prog:Program) (w:World) (x:Str) (t:Tok):(ck prog w).is (.inr x) (.str x t)=true:=tE x t
end L2
namespace L2
open PySem PySem.Spec PyProof.Rows
inductive V where
 | non | bl (b:Bool) | int (i:Int) | str (x:Str) | byt (b:Array UInt8) | flt (b:UInt64) | ref (a:Addr) | ty (n:String)
 deriving DecidableEq
def RelV:V→Value→Prop
 | .non,u=>u=Value.none
 | .bl b,u=>u=Value.bool b
 | .int i,u=>∃ t,u=Value.int i t
 | .str x,u=>∃ t,u=Value.str x t
 | .byt b,u=>∃ t,u=Value.bytes b t
 | .flt b,u=>∃ t,u=Value.float b t
 | .ref a,u=>u=Value.ref a
 | .ty n,u=>u=Value.type n
abbrev Vals:List V→List Value→Prop:=Paired RelV
theorem Vals.length {xs:List V} {us:List Value} (r:Vals xs us):xs.length=us.length:=Paired.length r
theorem Vals.get:∀ {xs:List V} {us:List Value} {i:Nat} {x:V},Vals xs us→xs[i]?=some x→∃ u,us[i]?=some u∧RelV x u
 | _,_,_,_,.nil,e=>by simp at e
 | _,_,0,_,.cons r _,e=>by simp at e; subst e; exact ⟨_,rfl,r⟩
 | _,_,i + 1,x,.cons _ t,e=>by
   obtain ⟨u,h1,h2⟩:=Vals.get (i:=i) (x:=x) t (by simpa using e)
   exact ⟨u,by simpa using h1,h2⟩
theorem Vals.set {x:V} {u:Value} (r:RelV x u):∀ {xs:List V} {us:List Value} (i:Nat),Vals xs us→Vals (xs.set i x) (us.set i u)
 | _,_,_,.nil=>.nil
 | _,_,0,.cons _ t=>.cons r t
 | _,_,i + 1,.cons q t=>.cons q (Vals.set r i t)
theorem Vals.append:∀ {xs ys:List V} {us ws:List Value},Vals xs us→Vals ys ws→Vals (xs ++ ys) (us ++ ws)
 | _,_,_,_,.nil,s=>s
 | _,_,_,_,.cons r t,s=>.cons r (Vals.append t s)
theorem Vals.take:∀ {xs:List V} {us:List Value} (n:Nat),Vals xs us→Vals (xs.take n) (us.take n)
 | _,_,0,_=>.nil
 | _,_,_ + 1,.nil=>.nil
 | _,_,n + 1,.cons r t=>.cons r (Vals.take n t)
theorem Vals.drop:∀ {xs:List V} {us:List Value} (n:Nat),Vals xs us→Vals (xs.drop n) (us.drop n)
 | _,_,0,r=>r
 | _,_,_ + 1,.nil=>.nil
 | _,_,n + 1,.cons _ t=>Vals.drop n t
def RelO:Option V→Option Value→Prop
 | some v,some u=>RelV v u
 | none,none=>True
 | _,_=>False
def KV {κ:Type}:List (κ × V)→List (κ × Value)→Prop:=Paired fun (p:κ × V) (q:κ × Value)=>p.1=q.1∧RelV p.2 q.2
def kV:Key→V
 | .inl i=>.int i
 | .inr x=>.str x
inductive HO where
 /-- a list -/
 | lst (xs:List V)
 /-- a tuple (never changes) -/
 | tup (xs:List V)
 /-- a dict whose keys are ints and texts; one whose keys are tuples of ints and texts (the empty one is both) -/
 | dK (kvs:List (Key × V)) | dT (kvs:List (List Key × V))
 /-- a set of ints: its members,its size -/
 | set (S:Int→Bool) (n:Nat)
 /-- an instance of the class at C,its dict at dx,its attributes -/
 | ins (C dx:Addr) (fs:List (Str × V))
 /-- the dict of the instance at x -/
 | own (x:Addr)
 /-- the dict of an exception -/
 | xd (fs:List (Str × V))
 /-- a bound method,f of x -/
 | met (f x:Addr)
 /-- a range object lo,lo + 1,.. below hi -/
 | rng (lo hi:Int)
 /-- a thing that is known to the object (the script; a dict while a loop walks it): read,never written while it is so -/
 | frz (o:Obj) (u:HO)
 /-- a code object's table -/
 | tbl (ps:Array Value)
 /-- any other thing,by what is true of its one object (a def of one's own: SetO a S n:=HO.ext fun h=>..) -/
 | ext (φ:Heap→Prop)
abbrev Hp:=Addr→Option HO
def upd (H:Hp) (a:Addr) (o:HO):Hp:=fun b=>if b=a then some o else H b
theorem ah {H:Hp} {a:Addr} {o:HO}:upd H a o a=some o:=by unfold upd; rw [if_pos rfl]
theorem ap {H:Hp} {a b:Addr} {o:HO} (h:b≠a):upd H a o b=H b:=by unfold upd; rw [if_neg h]
theorem eS {H:Hp} {a:Addr} {o u:HO}:upd (upd H a o) a u=upd H a u:=by
 funext b; unfold upd; split <;> rfl
theorem eu {H:Hp} {a b:Addr} {o u:HO} (h:H a=some o) (h':H b=some u) (d:o≠u):a≠b:=by
 intro e; subst e; rw [h] at h'; exact d (Option.some.inj h')
theorem aY {H:Hp} {a b:Addr} {o:HO} (h:H a=some o) (h':H b=none):a≠b:=by
 intro e; subst e; rw [h] at h'; cases h'
section
variable (P:Program) (w:World)
def ObjOk (H:Hp) (h:Heap) (a:Addr):HO→Prop
 | .lst xs=>xs.length≤sizeLine∧∃ (its:List Value) (n:Nat),Vals xs its∧h.get? a=some { cls:=.type "list",data:=.seq its.toArray n }
 | .tup xs=>xs.length≤sizeLine∧∃ its:List Value,Vals xs its∧IsTup h a its.toArray
 | .dK kvs=>kvs.length≤sizeLine∧(a == sysModules)=false∧∃ vs,KV kvs vs∧h.DictOf (ck P w) a vs
 | .dT kvs=>kvs.length≤sizeLine∧(a == sysModules)=false∧∃ xs:List (List Key × Addr × Value),
     Paired (fun (p:List Key × V) (q:List Key × Addr × Value)=>p.1=q.1∧H q.2.1=some (.tup (p.1.map kV))∧RelV p.2 q.2.2) kvs xs ∧
     ∃ o es ep,h.get? a=some o∧o.ExactDict∧o.data=.dict es ep∧es.toList=xs.map (entryOfKey (tupleKind (ck P w)))∧(xs.map (·.1)).Nodup
 | .set S n=>h.SetOf (intKind P w) a S n
 | .ins C dx fs=>H dx=some (.own a)∧fs.length≤1000∧dx≠a∧h.get? a=some (PySem.W.instObj C dx) ∧
     ∃ mA,h.Ns1 dx mA∧(∀ f,RelO (fs.lookup f) (mA f))∧PySem.Within mA (fs.map (·.1))
 | .own _=>∃ o,h.get? a=some o
 | .xd fs=>∃ mA,h.Ns1 a mA∧∀ f,RelO (fs.lookup f) (mA f)
 | .rng lo hi=>∃ t u v,h.get? a=some { cls:=.type "range",data:=.fields #[.int lo t,.int hi u,.int 1 v] }
 | .frz o u=>h.get? a=some o∧ObjOk H h a u
 | .tbl ps=>h.get? a=some { cls:=.none,data:=.fields ps }
 | .met f x=>h.get? a=some (PySem.W.methodObj (.ref f) (.ref x))
 | .ext φ=>φ h∧(∃ o,h.get? a=some o)∧∀ h1 h2:Heap,φ h1→(∀ o,h1.get? a=some o→h2.get? a=some o)→φ h2
def HOk (H:Hp) (h:Heap):Prop:=∀ a o,H a=some o→ObjOk P w H h a o
end
section
variable {P:Program} {w:World} {H H':Hp} {h h':Heap} {a:Addr} {o:HO}
theorem ObjOk.lt (x:ObjOk P w H h a o):a < h.objs.size:=by
 cases o with
 | lst xs=>obtain ⟨_,_,_,_,e⟩:=x; exact Heap.lt_size e
 | tup xs=>obtain ⟨_,_,_,p⟩:=x; exact p.lt
 | dK kvs=>obtain ⟨_,_,_,_,o,_,_,e,_⟩:=x; exact Heap.lt_size e
 | dT kvs=>obtain ⟨_,_,_,_,o,_,_,e,_⟩:=x; exact Heap.lt_size e
 | set S n=>obtain ⟨o,_,_,_,e,_⟩:=x; exact Heap.lt_size e
 | ins C dx fs=>obtain ⟨_,_,_,e,_⟩:=x; exact Heap.lt_size e
 | own y=>obtain ⟨_,e⟩:=x; exact Heap.lt_size e
 | xd fs=>obtain ⟨_,⟨_,_,_,e,_⟩,_⟩:=x; exact Heap.lt_size e
 | rng lo hi=>obtain ⟨_,_,_,e⟩:=x; exact Heap.lt_size e
 | frz ob u=>obtain ⟨e,_⟩:=x; exact Heap.lt_size e
 | tbl ps=>exact Heap.lt_size (show h.get? a=some _ from x)
 | met f y=>exact Heap.lt_size (show h.get? a=some _ from x)
 | ext φ=>obtain ⟨_,⟨_,e⟩,_⟩:=x; exact Heap.lt_size e
theorem Paired.mapP {α β:Type} {F G:α→β→Prop}:∀ {l₁:List α} {l₂:List β},Paired F l₁ l₂→(∀ a b,F a b→G a b)→Paired G l₁ l₂
 | _,_,.nil,_=>.nil
 | _,_,.cons r t,f=>.cons (f _ _ r) (Paired.mapP t f)
theorem Paired.imp' {α β:Type} {F G:α→β→Prop} (f:∀ a b,F a b→G a b) {l₁:List α} {l₂:List β} (r:Paired F l₁ l₂):Paired G l₁ l₂:=Paired.mapP r f
theorem ObjOk.stay (x:ObjOk P w H h a o) (k:∀ b u,(b=a∨H b=some (.own a))→h.get? b=some u→h'.get? b=some u)
   (ho:∀ b,H b=some (.own a)→H' b=some (.own a)) (ht:∀ b xs,H b=some (.tup xs)→H' b=some (.tup xs)):ObjOk P w H' h' a o:=by
 induction o with
 | lst xs=>obtain ⟨z,its,n,r,e⟩:=x; exact ⟨z,its,n,r,k _ _ (.inl rfl) e⟩
 | tup xs=>obtain ⟨z,its,r,ob,e,c⟩:=x; exact ⟨z,its,r,ob,k _ _ (.inl rfl) e,c⟩
 | dK kvs=>obtain ⟨z,y,vs,r,ob,es,ep,e,c⟩:=x; exact ⟨z,y,vs,r,ob,es,ep,k _ _ (.inl rfl) e,c⟩
 | dT kvs =>
   obtain ⟨z,y,xs,r,ob,es,ep,e,c⟩:=x
   exact ⟨z,y,xs,Paired.mapP r fun p q z=>⟨z.1,ht _ _ z.2.1,z.2.2⟩,ob,es,ep,k _ _ (.inl rfl) e,c⟩
 | set S n=>obtain ⟨ob,es,ep,t,e,c⟩:=x; exact ⟨ob,es,ep,t,k _ _ (.inl rfl) e,c⟩
 | ins C dx fs =>
   obtain ⟨d,z,ne,e,mA,⟨od,es,ep,e2,c⟩,r⟩:=x
   exact ⟨ho _ d,z,ne,k _ _ (.inl rfl) e,mA,⟨od,es,ep,k _ _ (.inr d) e2,c⟩,r⟩
 | own y=>obtain ⟨ob,e⟩:=x; exact ⟨ob,k _ _ (.inl rfl) e⟩
 | xd fs=>obtain ⟨mA,⟨od,es,ep,e,c⟩,r⟩:=x; exact ⟨mA,⟨od,es,ep,k _ _ (.inl rfl) e,c⟩,r⟩
 | rng lo hi=>obtain ⟨t,u,v,e⟩:=x; exact ⟨t,u,v,k _ _ (.inl rfl) e⟩
 | frz ob u ih=>obtain ⟨e,q⟩:=x; exact ⟨k _ _ (.inl rfl) e,ih q⟩
 | tbl ps =>
   have e:h.get? a=some { cls:=.none,data:=.fields ps }:=x
   show h'.get? a=some { cls:=.none,data:=.fields ps }
   exact k a _ (.inl rfl) e
 | met f y =>
   have e:h.get? a=some (PySem.W.methodObj (.ref f) (.ref y)):=x
   show h'.get? a=some (PySem.W.methodObj (.ref f) (.ref y))
   exact k a _ (.inl rfl) e
 | ext φ=>obtain ⟨p,⟨o,e⟩,st⟩:=x; exact ⟨st _ _ p fun o q=>k _ _ (.inl rfl) q,⟨o,k _ _ (.inl rfl) e⟩,st⟩
theorem HOk.lt (x:HOk P w H h) (e:H a=some o):a < h.objs.size:=(x a o e).lt
theorem HOk.fresh (x:HOk P w H h) (e:h.objs.size≤a):H a=none:=by
 cases q:H a with
 | none=>rfl
 | some u=>exact absurd (Nat.lt_of_lt_of_le (x.lt q) e) (Nat.lt_irrefl _)
theorem HOk.kept (x:HOk P w H h) (k:∀ b u,h.get? b=some u→h'.get? b=some u):HOk P w H h':=fun a o e =>
 (x a o e).stay (fun b u _ q=>k b u q) (fun _ q=>q) fun _ _ q=>q
theorem HOk.laid (x:HOk P w H h) (k:∀ b u,h.get? b=some u→h'.get? b=some u) (hp:h.objs.size≤a) (new:ObjOk P w (upd H a o) h' a o):HOk P w (upd H a o) h':=fun b u e=>by
 have hn:=x.fresh hp
 by_cases hb:b=a
 · subst hb; rw [ah] at e; cases e; exact new
 · rw [ap hb] at e
   exact (x b u e).stay (fun c v _ q=>k c v q) (fun c q=>by rw [ap (aY q hn)]; exact q) fun c xs q=>by rw [ap (aY q hn)]; exact q
end
def Rd (H:Hp) (a:Addr) (u:HO):Prop:=H a=some u∨∃ o,H a=some (.frz o u)
theorem Rd.ok {P:Program} {w:World} {H:Hp} {h:Heap} {a:Addr} {u:HO} (r:Rd H a u) (x:HOk P w H h):ObjOk P w H h a u:=by
 rcases r with r | ⟨o,r⟩
 · exact x a u r
 · obtain ⟨_,q⟩:=x a _ r
   exact q
def Mut:Option HO→Prop
 | some (.lst _)=>True
 | some (.dK _)=>True
 | some (.dT _)=>True
 | some (.set _ _)=>True
 | some (.ins _ _ _)=>True
 | some (.ext _)=>True
 | _=>False
section
variable {P:Program} {w:World} {H:Hp} {h h':Heap} {x e:Addr} {o':HO}
theorem HOk.write (ok:HOk P w H h) (mu:Mut (H x)) (he:e=x∨H e=some (.own x)) (k:∀ b u,b≠e→h.get? b=some u→h'.get? b=some u) (heo:∃ u,h'.get? e=some u)
   (new:ObjOk P w (upd H x o') h' x o'):HOk P w (upd H x o') h':=fun b u q=>by
 have nown:∀ c y,H c=some (.own y)→c≠x:=fun c y r z=>by subst z; rw [r] at mu; exact mu
 have ntup:∀ c xs,H c=some (.tup xs)→c≠x:=fun c xs r z=>by subst z; rw [r] at mu; exact mu
 by_cases hb:b=x
 · subst hb; rw [ah] at q; cases q; exact new
 · rw [ap hb] at q
   by_cases hbe:b=e
   · have q':H b=some (.own x):=by
       rcases he with z | z
       · exact absurd (hbe.trans z) hb
       · rw [hbe]; exact z
     rw [q] at q'; cases q'
     obtain ⟨v,hv⟩:=heo
     exact ⟨v,by rw [hbe]; exact hv⟩
   · refine (ok b u q).stay (fun c v hc r=>k c v ?_ r) (fun c r=>by rw [ap (nown c b r)]; exact r) fun c xs r=>by rw [ap (ntup c xs r)]; exact r
     rcases hc with rfl | hc
     · exact hbe
     · rintro rfl
       rcases he with z | z
       · exact nown c b hc z
       · rw [hc] at z; cases z; exact hb rfl
end
structure Un (fs ex:List Addr) (H H':Hp) (h h':Heap):Prop where
 keep:∀ b o,h.get? b=some o→H b=none→b ∉ fs→b ∉ ex→h'.get? b=some o
 slot:∀ b o,h.get? b=some o→H b=none→b∈fs→b ∉ ex→∃ sl,h'.get? b=some { o with slots:=sl }
 free:∀ b o,h.get? b=some o→H b=none→b ∉ ex→H' b=none
 there:∀ b o,h.get? b=some o→b ∉ ex→∃ o',h'.get? b=some o'
 tups:∀ b xs,H b=some (.tup xs)→H' b=some (.tup xs)
 frzs:∀ b o u,H b=some (.frz o u)→H' b=some (.frz o u)
 tbls:∀ b ps,H b=some (.tbl ps)→∃ more,H' b=some (.tbl (ps ++ more))
section
variable {fs fs' ex ex':List Addr} {H H1 H2:Hp} {h h1 h2 h':Heap} {a x e:Addr} {o:HO}
theorem Un.any (u:Un fs ex H H1 h h1) {b:Addr} {ob:Obj} (q:h.get? b=some ob) (n:H b=none) (hx:b ∉ ex):∃ sl,h1.get? b=some { ob with slots:=sl }:=by
 by_cases hb:b∈fs
 · exact u.slot b ob q n hb hx
 · exact ⟨ob.slots,u.keep b ob q n hb hx⟩
theorem Un.kept (k:∀ b u,h.get? b=some u→h'.get? b=some u):Un fs ex H H h h' :=
 ⟨fun b ob q _ _ _=>k b ob q,fun b ob q _ _ _=>⟨ob.slots,k b ob q⟩,fun _ _ _ n _=>n,fun b ob q _=>⟨ob,k b ob q⟩,fun _ _ q=>q,fun _ _ _ q=>q,fun _ ps q=>⟨#[],by rw [q]; simp⟩⟩
theorem Un.refl:Un fs ex H H h h:=Un.kept fun _ _ q=>q
theorem Un.laid (k:∀ b u,h.get? b=some u→h'.get? b=some u) (hp:h.objs.size≤a) (hn:H a=none):Un fs ex H (upd H a o) h h' where
 keep:=fun b u q _ _ _=>k b u q
 slot:=fun b u q _ _ _=>⟨u.slots,k b u q⟩
 free:=fun b u q n _=>by rw [ap (Nat.ne_of_lt (Nat.lt_of_lt_of_le (Heap.lt_size q) hp))]; exact n
 there:=fun b u q _=>⟨u,k b u q⟩
 tups:=fun b xs q=>by rw [ap (aY q hn)]; exact q
 frzs:=fun b u xs q=>by rw [ap (aY q hn)]; exact q
 tbls:=fun b ps q=>⟨#[],by rw [ap (aY q hn),q]; simp⟩
theorem Un.write (mu:Mut (H x)) (he:e=x∨H e=some (.own x)) (k:∀ b u,b≠e→h.get? b=some u→h'.get? b=some u) (heo:∃ u,h'.get? e=some u):Un fs ex H (upd H x o) h h':=by
 have hx:∀ b,H b=none→b≠x:=fun b n z=>by subst z; rw [n] at mu; exact mu
 have hb:∀ b,H b=none→b≠e:=fun b n z=>by
   subst z
   rcases he with r | r
   · exact hx b n r
   · rw [n] at r; cases r
 have hm:∀ b u,H b=some u→¬ Mut (some u)→b≠x:=fun b u q nm z=>by subst z; rw [q] at mu; exact nm mu
 refine ⟨fun b u q n _ _=>k b u (hb b n) q,fun b u q n _ _=>⟨u.slots,k b u (hb b n) q⟩,fun b u q n _=>by rw [ap (hx b n)]; exact n,fun b u q _=>?_,
   fun b xs q=>by rw [ap (hm b _ q fun z=>z)]; exact q,fun b u xs q=>by rw [ap (hm b _ q fun z=>z)]; exact q,fun b ps q=>⟨#[],by rw [ap (hm b _ q fun z=>z),q]; simp⟩⟩
 by_cases hbe:b=e
 · subst hbe; exact heo
 · exact ⟨u,k b u hbe q⟩
end
def trk (h:Heap) (H:Hp):List Addr:=(List.range h.objs.size).filter fun a=>(H a).isSome
def iz (h:Heap) (H:Hp):Heap:=PySem.W.hideAll h (trk h H)
theorem tM (h:Heap) (H:Hp):(iz h H).objs.size=h.objs.size:=PySem.W.hideAll_size _ _
theorem vZ {h:Heap} {H:Hp} {b:Addr} {o:Obj} (e:h.get? b=some o) (n:H b=none):(iz h H).get? b=some o :=
 PySem.W.hideAll_get _ e fun hm=>by
   have q:(H b).isSome=true:=(List.mem_filter.mp hm).2
   rw [n] at q; simp at q
theorem y8 {h:Heap} {H:Hp} {b:Addr} {o:Obj} (e:(iz h H).get? b=some o):h.get? b=some o∧H b=none:=by
 have e':h.get? b=some o:=PySem.W.of_hideAll (trk h H) e
 refine ⟨e',?_⟩
 cases q:H b with
 | none=>rfl
 | some x =>
   have hm:b∈trk h H:=List.mem_filter.mpr ⟨List.mem_range.mpr (Heap.lt_size e'),by simp [q]⟩
   have z:(iz h H).get? b=none:=PySem.W.hideAll_none (trk h H) hm
   rw [z] at e; cases e
def y4 (g h:Heap) (L:Addr):List (Addr × Obj):=(List.range h.objs.size).filterMap fun a=>if a=L∨(g.get? a).isSome=true then none else (h.get? a).map fun o=>(a,o)
def rest (g h:Heap) (L d:Addr):List (Addr × Obj):=(y4 g h L).filter fun p=>decide (p.1≠d)
end L2
namespace L2
open PySem PySem.Spec PyProof.Rows
structure Mod (K:PySem.W.Frag) (mg:Str→Option Value) (base:Heap):Prop where
 kin:K.In base
 glob:base.Ns mainGlobals mg
 blt:∃ mb,base.Ns builtinsNs mb∧∀ x:Str,x≠"__name__"→mb x=bootBuiltins x
 nolimit:base.NoLimit
structure Cx where
 prog:Program
 w:World
 K:PySem.W.Frag
 mg:Str→Option Value
 base:Heap
 A:Around
 N:List Str
 s₀:Shared
 H₀:Hp
 env:Env
 outer:List Env
 stack:List Env
 ex:List Addr
 fn:Str→Bool
 calm:Bool
 pn:List (Addr × Obj)
 xe:Value→Shared→Prop
def frs (l:List Env):List Addr:=l.filterMap (·.frame)
abbrev Cx.fs (X:Cx):List Addr:=frs X.outer
def Vis (sc:Scope) (x:Str):Prop:=sc.names.lookup x=some .local∨sc.names.lookup x=some .cell∨sc.names.lookup x=some .free
def Loc (sc:Scope) (x:Str):Prop:=sc.names.lookup x=some .local∨sc.names.lookup x=some .cell
def Bc (env:Env) (h:Heap) (m:Str→Option Value) (x:Str) (u:Value):Prop :=
 (env.kindOf x=some .local∧m x=some u)∨((env.kindOf x=some .cell∨env.kindOf x=some .free)∧∃ c,env.cells.lookup x=some c∧h.IsCell c (some u))
structure Cx.Ok (X:Cx):Prop where
 mod:Mod X.K X.mg X.base
 kind:X.env.scope.kind=.function
 glob:X.env.globals=mainGlobals
 blt:X.env.builtins=builtinsNs
 above:X.s₀.heap.objs.size≤X.env.locals
 inj:∀ x y c,X.env.cells.lookup x=some c→X.env.cells.lookup y=some c→x=y
 has:∀ x,(X.env.kindOf x=some .cell∨X.env.kindOf x=some .free)→∃ c,X.env.cells.lookup x=some c
 cab:∀ x c,X.fn x=true→X.env.cells.lookup x=some c→X.s₀.heap.objs.size≤c
 hd:X.calm=true→X.A.handled=none
 frames:X.A.frames=some X.stack
 stk:X.stack=X.outer∨(X.stack=X.env :: X.outer∧X.env.frame=some X.env.locals)
 exf:∀ b∈X.ex,b≠X.env.locals∧∀ x c,X.env.cells.lookup x=some c→c≠b
 bs:∀ b o,X.base.get? b=some o→X.s₀.heap.get? b=some o∧X.H₀ b=none
 bsz:X.base.objs.size≤X.s₀.heap.objs.size
 noex:∀ b o,X.base.get? b=some o→b ∉ X.ex
 exfs:∀ b∈X.ex,b ∉ X.fs
 funs:X.s₀.heap.FunFrames X.base X.outer
 frf:∀ b∈X.fs,X.H₀ b=none
structure Inv (X:Cx) (pins:List (Addr × Obj)) (σ:List (Option V)) (H:Hp) (s:Shared):Prop where
 ok:X.Ok
 os:s.os=X.s₀.os
 bare:AllBare s.gens
 base:Un X.fs X.ex X.H₀ H X.s₀.heap s.heap
 loc:∃ m,s.heap.Ns X.env.locals m∧∀ (i:Nat) (x:Str) (v:V),X.N[i]?=some x→σ[i]?=some (some v)→Vis X.env.scope x→∃ u,RelV v u∧Bc X.env s.heap m x u
 cell:∀ x c,X.env.cells.lookup x=some c→∃ v,s.heap.IsCell c v
 free:H X.env.locals=none
 freeC:∀ x c,X.env.cells.lookup x=some c→H c=none
 pin:∀ p∈X.pn ++ pins,s.heap.get? p.1=some p.2∧H p.1=none∧p.1≠X.env.locals∧p.1 ∉ X.fs∧∀ v,p.2.data≠.cell v
 hok:HOk X.prog X.w H s.heap
 len:σ.length=X.N.length
section
variable {X:Cx} {pins:List (Addr × Obj)} {σ:List (Option V)} {H H':Hp} {s:Shared} {h':Heap}
theorem Cx.Ok.nofr (ok:X.Ok) {b:Addr} {o:Obj} (e:X.base.get? b=some o):b ∉ X.fs:=fun hb=>by
 have:=(ok.funs.mem hb).1
 rw [e] at this; cases this
theorem Inv.bs (I:Inv X pins σ H s):∀ b o,X.base.get? b=some o→s.heap.get? b=some o∧H b=none:=fun b o e =>
 ⟨I.base.keep b o (I.ok.bs b o e).1 (I.ok.bs b o e).2 (I.ok.nofr e) (I.ok.noex b o e),I.base.free b o (I.ok.bs b o e).1 (I.ok.bs b o e).2 (I.ok.noex b o e)⟩
theorem Inv.bk (I:Inv X pins σ H s):∀ b o,X.base.get? b=some o→s.heap.get? b=some o:=fun b o e=>(I.bs b o e).1
theorem Inv.mod (I:Inv X pins σ H s):Mod X.K X.mg X.base:=I.ok.mod
theorem Inv.kIn (I:Inv X pins σ H s):X.K.In s.heap:=I.ok.mod.kin.keeps I.bk
theorem Inv.lt (I:Inv X pins σ H s):X.env.locals < s.heap.objs.size:=let ⟨_,hn,_⟩:=I.loc; hn.lt
theorem Inv.sz (I:Inv X pins σ H s):X.s₀.heap.objs.size≤s.heap.objs.size:=Nat.le_trans I.ok.above (Nat.le_of_lt I.lt)
theorem Inv.nofs (I:Inv X pins σ H s) {a:Addr} (h:s.heap.objs.size≤a):a ∉ X.fs:=fun hb=>by
 obtain ⟨_,o,ho,_⟩:=I.ok.funs.mem hb
 exact absurd (Nat.lt_of_lt_of_le (Heap.lt_size ho) (Nat.le_trans I.sz h)) (Nat.lt_irrefl _)
theorem Inv.cne (I:Inv X pins σ H s):∀ x c,X.env.cells.lookup x=some c→c≠X.env.locals:=fun x c e z=>by
 obtain ⟨v,o,ho,hd⟩:=I.cell x c e
 obtain ⟨m,⟨o',es,ep,ho',hd',_⟩,_⟩:=I.loc
 rw [z,ho'] at ho; cases ho; rw [hd'] at hd; cases hd
theorem Inv.funs (I:Inv X pins σ H s):s.heap.FunFrames X.base X.outer:=by
 have all:∀ (l:List Env),(∀ b∈frs l,b∈X.fs)→X.s₀.heap.FunFrames X.base l→s.heap.FunFrames X.base l:=by
   intro l
   induction l with
   | nil=>intro _ _; trivial
   | cons env r ih =>
     intro hs hl
     obtain ⟨hk,⟨L,o,hf,hn,ho,hd⟩,hr⟩:=hl
     have hL:L∈X.fs:=hs L (by unfold frs; rw [List.filterMap_cons,hf]; exact List.mem_cons_self)
     obtain ⟨sl,e⟩:=I.base.slot L o ho (I.ok.frf L hL) hL fun z=>I.ok.exfs L z hL
     exact ⟨hk,⟨L,_,hf,hn,e,hd⟩,ih (fun b hb=>hs b (by unfold frs; rw [List.filterMap_cons,hf]; exact List.mem_cons_of_mem _ hb)) hr⟩
 exact all X.outer (fun _ hb=>hb) I.ok.funs
theorem Inv.stack (I:Inv X pins σ H s):s.heap.FunFrames X.base X.stack:=by
 rcases I.ok.stk with e | ⟨e,hf⟩
 · rw [e]; exact I.funs
 · rw [e]
   obtain ⟨m,hn,_⟩:=I.loc
   refine .cons (by rw [I.ok.kind]; decide) hf hn ?_ I.funs
   exact Heap.get?_none_of_le (Nat.le_trans I.ok.bsz I.ok.above)
theorem Inv.stkSub (I:Inv X pins σ H s):∀ b∈frs X.stack,b∈X.env.locals :: X.fs:=fun b hb=>by
 rcases I.ok.stk with e | ⟨e,hf⟩
 · rw [e] at hb; exact List.mem_cons_of_mem _ hb
 · rw [e] at hb
   unfold frs at hb
   rw [List.filterMap_cons,hf] at hb
   exact hb
theorem Inv.stkFree (I:Inv X pins σ H s):∀ b∈frs X.stack,H b=none:=fun b hb=>by
 rcases List.mem_cons.mp (I.stkSub b hb) with e | hb
 · rw [e]; exact I.free
 · obtain ⟨_,o,ho,_⟩:=I.ok.funs.mem hb
   exact I.base.free b o ho (I.ok.frf b hb) fun z=>I.ok.exfs b z hb
theorem Inv.step {g':Array GenState} {t':Nat} {d':Drawn} {ch:List Addr} (I:Inv X pins σ H s)
   (hch:∀ b∈ch,(b∈X.ex∨X.s₀.heap.objs.size≤b)∧b≠X.env.locals∧(∀ x c,X.env.cells.lookup x=some c→c≠b)∧∀ p∈X.pn ++ pins,p.1≠b)
   (keep:∀ b o,b≠X.env.locals→b ∉ X.fs→b ∉ ch→s.heap.get? b=some o→H b=none→h'.get? b=some o)
   (slot:∀ b o,b≠X.env.locals→b∈X.fs→b ∉ ch→s.heap.get? b=some o→H b=none→∃ sl,h'.get? b=some { o with slots:=sl }) (free:∀ b o,b ∉ ch→s.heap.get? b=some o→H b=none→H' b=none)
   (there:∀ b o,b ∉ ch→s.heap.get? b=some o→∃ o',h'.get? b=some o')
   (tups:∀ b xs,H b=some (.tup xs)→H' b=some (.tup xs)) (frzs:∀ b o u,H b=some (.frz o u)→H' b=some (.frz o u)) (tbls:∀ b ps,H b=some (.tbl ps)→∃ more,H' b=some (.tbl (ps ++ more)))
   (ns:∀ m,s.heap.Ns X.env.locals m→h'.Ns X.env.locals m) (hok:HOk X.prog X.w H' h') (hg:AllBare g') :
   Inv X pins σ H' { s with heap:=h',gens:=g',drawn:=d',toks:=t' }:=by
 have neL:∀ b o,X.s₀.heap.get? b=some o→b≠X.env.locals:=fun b o e=>Nat.ne_of_lt (Nat.lt_of_lt_of_le (Heap.lt_size e) I.ok.above)
 have neC:∀ b o,X.s₀.heap.get? b=some o→b ∉ X.ex→b ∉ ch:=fun b o e hx hb=>by
   rcases (hch b hb).1 with z | z
   · exact hx z
   · exact absurd (Nat.lt_of_lt_of_le (Heap.lt_size e) z) (Nat.lt_irrefl _)
 have cellK:∀ x c,X.env.cells.lookup x=some c→∀ v,s.heap.IsCell c v→h'.IsCell c v:=fun x c e v ⟨o,ho,hd⟩=>by
   have nch:c ∉ ch:=fun z=>(hch c z).2.2.1 x c e rfl
   by_cases hc:c∈X.fs
   · obtain ⟨sl,q⟩:=slot c o (I.cne x c e) hc nch ho (I.freeC x c e)
     exact ⟨_,q,hd⟩
   · exact ⟨o,keep c o (I.cne x c e) hc nch ho (I.freeC x c e),hd⟩
 refine ⟨I.ok,I.os,hg,⟨fun b o e n hb hx=>?_,fun b o e n hb hx=>?_,fun b o e n hx=>?_,fun b o e hx=>?_,fun b xs e=>tups b xs (I.base.tups b xs e),fun b o xs e=>frzs b o xs (I.base.frzs b o xs e),fun b ps e=>?_⟩,?_,fun x c e=>?_,?_,fun x c e=>?_,fun p hp=>?_,hok,I.len⟩
 · exact keep b o (neL b o e) hb (neC b o e hx) (I.base.keep b o e n hb hx) (I.base.free b o e n hx)
 · obtain ⟨sl,e1⟩:=I.base.slot b o e n hb hx
   obtain ⟨sl',e2⟩:=slot b _ (neL b o e) hb (neC b o e hx) e1 (I.base.free b o e n hx)
   exact ⟨sl',e2⟩
 · obtain ⟨o',e1⟩:=I.base.there b o e hx
   exact free b o' (neC b o e hx) e1 (I.base.free b o e n hx)
 · obtain ⟨o',e1⟩:=I.base.there b o e hx
   exact there b o' (neC b o e hx) e1
 · obtain ⟨m1,e1⟩:=I.base.tbls b ps e
   obtain ⟨m2,e2⟩:=tbls b _ e1
   exact ⟨m1 ++ m2,by rw [e2,Array.append_assoc]⟩
 · obtain ⟨m,hn,hl⟩:=I.loc
   refine ⟨m,ns m hn,fun i x v e1 e2 e3=>?_⟩
   obtain ⟨u,r,l⟩:=hl i x v e1 e2 e3
   refine ⟨u,r,?_⟩
   rcases l with l | ⟨k,c,e,z⟩
   · exact .inl l
   · exact .inr ⟨k,c,e,cellK x c e _ z⟩
 · obtain ⟨v,z⟩:=I.cell x c e
   exact ⟨v,cellK x c e v z⟩
 · obtain ⟨m,⟨o,_,_,ho,_⟩,_⟩:=I.loc
   exact free _ o (fun z=>(hch _ z).2.1 rfl) ho I.free
 · obtain ⟨v,o,ho,hd⟩:=I.cell x c e
   exact free c o (fun z=>(hch c z).2.2.1 x c e rfl) ho (I.freeC x c e)
 · obtain ⟨e,n,ne,nf,d⟩:=I.pin p hp
   have nch:p.1 ∉ ch:=fun z=>(hch p.1 z).2.2.2 p hp rfl
   exact ⟨keep p.1 p.2 ne nf nch e n,free p.1 p.2 nch e n,ne,nf,d⟩
theorem Inv.un {t':Nat} (I:Inv X pins σ H s) (u:Un X.fs [] H H' s.heap h') (hok:HOk X.prog X.w H' h'):Inv X pins σ H' { s with heap:=h',toks:=t' }:=by
 obtain ⟨m,⟨o,es,ep,ho,r⟩,_⟩:=id I.loc
 obtain ⟨sl,hL⟩:=u.any ho I.free (by simp)
 exact I.step (g':=s.gens) (d':=s.drawn) (ch:=[]) (fun _ z=>nomatch z) (fun b o _ hb _ e n=>u.keep b o e n hb (by simp)) (fun b o _ hb _ e n=>u.slot b o e n hb (by simp)) (fun b o _ e n=>u.free b o e n (by simp)) (fun b o _ e=>u.there b o e (by simp)) u.tups u.frzs u.tbls (fun m' hm=>by
   obtain ⟨o',es',ep',ho',r'⟩:=hm
   rw [ho] at ho'; cases ho'
   exact ⟨_,es',ep',hL,r'⟩) hok I.bare
theorem Inv.call {g':Array GenState} {t':Nat} {d':Drawn} {ch:List Addr} (I:Inv X pins σ H s) (u:Un (frs X.stack) ch H H' s.heap h') (hok:HOk X.prog X.w H' h') (hg:AllBare g')
   (hch:∀ b∈ch,(b∈X.ex∨X.s₀.heap.objs.size≤b)∧b≠X.env.locals∧(∀ x c,X.env.cells.lookup x=some c→c≠b)∧∀ p∈X.pn ++ pins,p.1≠b) :
   Inv X pins σ H' { s with heap:=h',gens:=g',drawn:=d',toks:=t' }:=by
 obtain ⟨m,⟨o,es,ep,ho,r⟩,_⟩:=id I.loc
 obtain ⟨sl,hL⟩:=u.any ho I.free fun z=>(hch _ z).2.1 rfl
 exact I.step (ch:=ch) hch (fun b o hL hb hc e n=>u.keep b o e n (fun z=>(List.mem_cons.mp (I.stkSub b z)).elim hL hb) hc) (fun b o _ _ hc e n=>u.any e n hc) (fun b o hc e n=>u.free b o e n hc) (fun b o hc e=>u.there b o e hc) u.tups u.frzs u.tbls (fun m' hm=>by
   obtain ⟨o',es',ep',ho',r'⟩:=hm
   rw [ho] at ho'; cases ho'
   exact ⟨_,es',ep',hL,r'⟩) hok hg
theorem Inv.turned {t':Nat} {it:Addr} (I:Inv X pins σ H s) (k:∀ b o,b≠it→s.heap.get? b=some o→h'.get? b=some o) (hn:H it=none) (hL:it≠X.env.locals)
   (h1:it∈X.ex∨X.s₀.heap.objs.size≤it) (h2:∀ x c,X.env.cells.lookup x=some c→c≠it) (h3:∀ p∈X.pn ++ pins,p.1≠it):Inv X pins σ H { s with heap:=h',toks:=t' }:=by
 have nit:∀ b u,H b=some u→b≠it:=fun b u e z=>by rw [z,hn] at e; cases e
 refine I.step (g':=s.gens) (d':=s.drawn) (ch:=[it]) (fun b hb=>?_) (fun b o _ _ hc e _=>k b o (fun z=>hc (by simp [z])) e) (fun b o _ _ hc e _=>⟨o.slots,k b o (fun z=>hc (by simp [z])) e⟩) (fun _ _ _ _ n=>n)
   (fun b o hc e=>⟨o,k b o (fun z=>hc (by simp [z])) e⟩) (fun _ _ e=>e) (fun _ _ _ e=>e) (fun b ps e=>⟨#[],by rw [e]; simp⟩) (fun m hm=>?_) (fun b u e=>?_) I.bare
 · have e:b=it:=by simpa using hb
   subst e
   exact ⟨h1,hL,h2,h3⟩
 · obtain ⟨o,es,ep,ho,r⟩:=hm
   exact ⟨o,es,ep,k _ o (Ne.symm hL) ho,r⟩
 · refine (I.hok b u e).stay (fun c v hc q=>k c v ?_ q) (fun _ q=>q) fun _ _ q=>q
   rcases hc with z | z
   · rw [z]; exact nit b u e
   · exact nit c _ z
theorem Inv.tok (I:Inv X pins σ H s) (t:Nat):Inv X pins σ H { s with toks:=t }:=I.un (h':=s.heap) (t':=t) Un.refl I.hok
theorem Inv.kept {t':Nat} (I:Inv X pins σ H s) (k:∀ b u,s.heap.get? b=some u→h'.get? b=some u):Inv X pins σ H { s with heap:=h',toks:=t' }:=I.un (Un.kept k) (I.hok.kept k)
theorem Inv.laid {a:Addr} {o:HO} {t':Nat} (I:Inv X pins σ H s) (k:∀ b u,s.heap.get? b=some u→h'.get? b=some u) (hp:s.heap.objs.size≤a) (new:ObjOk X.prog X.w (upd H a o) h' a o) :
   Inv X pins σ (upd H a o) { s with heap:=h',toks:=t' }:=I.un (Un.laid k hp (I.hok.fresh hp)) (I.hok.laid k hp new)
theorem Inv.write {x e:Addr} {o:HO} {t':Nat} (I:Inv X pins σ H s) (mu:Mut (H x)) (he:e=x∨H e=some (.own x)) (k:∀ b u,b≠e→s.heap.get? b=some u→h'.get? b=some u) (heo:∃ u,h'.get? e=some u)
   (new:ObjOk X.prog X.w (upd H x o) h' x o):Inv X pins σ (upd H x o) { s with heap:=h',toks:=t' }:=I.un (Un.write mu he k heo) (I.hok.write mu he k heo new)
theorem Inv.pins_of {pins':List (Addr × Obj)} (I:Inv X pins σ H s) (h:∀ p∈pins',s.heap.get? p.1=some p.2∧H p.1=none∧p.1≠X.env.locals∧p.1 ∉ X.fs∧∀ v,p.2.data≠.cell v):Inv X pins' σ H s :=
 ⟨I.ok,I.os,I.bare,I.base,I.loc,I.cell,I.free,I.freeC,fun p hp=>(List.mem_append.mp hp).elim (fun z=>I.pin p (List.mem_append_left _ z)) (h p),I.hok,I.len⟩
theorem ke {N:List Str} (hN:N.Nodup) {i j:Nat} {x:Str} (a:N[i]?=some x) (b:N[j]?=some x):i=j:=by
 obtain ⟨h1,e1⟩:=List.getElem?_eq_some_iff.mp a
 obtain ⟨h2,e2⟩:=List.getElem?_eq_some_iff.mp b
 exact (List.getElem_inj hN).mp (e1.trans e2.symm)
theorem m8 {M:Model} {A:Around} {E:Value→Shared→Prop} {i:Nat} {x:Str} {v:V} {u:Value} {Q:Unit→Shared→Prop} (I:Inv X pins σ H s) (hN:X.N.Nodup) (hi:X.N[i]?=some x) (hx:Loc X.env.scope x) (r:RelV v u)
   (h:∀ s',Inv X pins (σ.set i (some v)) H s'→(∃ a,Heap.SameBut a s.heap s'.heap∧(a=X.env.locals∨X.env.cells.lookup x=some a))→Q () s') (hf:X.fn x=true∨X.env.scope.names.lookup x=some .local:=by first | exact .inl rfl | exact .inr rfl | assumption):wpAny M A (storeName X.env x u) Q E s:=by
 obtain ⟨m,hn,hl⟩:=id I.loc
 have hcls:(X.env.scope.kind == .class || (X.env.scope.kind == .module && X.env.locals != X.env.globals))=false:=by rw [I.ok.kind]; rfl
 have hiσ:i < σ.length:=by rw [I.len]; exact (List.getElem?_eq_some_iff.mp hi).1
 have cne:=I.cne
 have tracked:∀ {a:Addr} {h':Heap},(∃ o,s.heap.get? a=some o∧H a=none)→Heap.SameBut a s.heap h'→HOk X.prog X.w H h':=fun {a h'} ha hs b ob e=>by
   obtain ⟨_,_,hfree⟩:=ha
   refine (I.hok b ob e).stay (fun c w' hc q=>(hs.2 c ?_).trans q) (fun _ q=>q) fun _ _ q=>q
   rintro rfl
   rcases hc with rfl | hc
   · rw [hfree] at e; cases e
   · rw [hfree] at hc; cases hc
 rcases hx with hk | hk
 · refine wpAny_storeName_local hk hn (fun h' hn' hs=>?_) hcls
   obtain ⟨oL,_,_,hoL,_⟩:=id hn
   refine h _ ⟨I.ok,I.os,I.bare,⟨fun b o e n hb hx=>?_,fun b o e n hb hx=>?_,I.base.free,fun b o e hx=>?_,I.base.tups,I.base.frzs,I.base.tbls⟩,⟨_,hn',fun j y v' e1 e2 e3=>?_⟩,fun y c e=>?_,I.free,I.freeC,fun p hp=>?_,tracked ⟨oL,hoL,I.free⟩ hs,by simpa using I.len⟩ ⟨_,hs,.inl rfl⟩
   · exact (hs.2 b (Nat.ne_of_lt (Nat.lt_of_lt_of_le (Heap.lt_size e) I.ok.above))).trans (I.base.keep b o e n hb hx)
   · obtain ⟨sl,e1⟩:=I.base.slot b o e n hb hx
     exact ⟨sl,(hs.2 b (Nat.ne_of_lt (Nat.lt_of_lt_of_le (Heap.lt_size e) I.ok.above))).trans e1⟩
   · obtain ⟨o',e1⟩:=I.base.there b o e hx
     exact ⟨o',(hs.2 b (Nat.ne_of_lt (Nat.lt_of_lt_of_le (Heap.lt_size e) I.ok.above))).trans e1⟩
   · by_cases hj:j=i
     · subst hj
       rw [hi] at e1; cases e1
       rw [List.getElem?_set_self hiσ] at e2
       cases e2
       exact ⟨u,r,.inl ⟨hk,by simp⟩⟩
     · rw [List.getElem?_set_ne (Ne.symm hj)] at e2
       obtain ⟨u',r',q⟩:=hl j y v' e1 e2 e3
       refine ⟨u',r',?_⟩
       rcases q with ⟨k,e⟩ | ⟨k,c,e,z⟩
       · refine .inl ⟨k,?_⟩
         have:y≠x:=fun e=>hj (ke hN e1 (e ▸ hi))
         simp [this,e]
       · exact .inr ⟨k,c,e,z.sameBut hs (cne y c e)⟩
   · obtain ⟨w',z⟩:=I.cell y c e
     exact ⟨w',z.sameBut hs (cne y c e)⟩
   · obtain ⟨e,n,ne,nf,d⟩:=I.pin p hp
     exact ⟨(hs.2 p.1 ne).trans e,n,ne,nf,d⟩
 · have hfn:X.fn x=true:=by
     rcases hf with z | z
     · exact z
     · rw [z] at hk; cases hk
   obtain ⟨c,hc⟩:=I.ok.has x (.inl hk)
   obtain ⟨w',z⟩:=I.cell x c hc
   refine wpAny_storeName_cell I.ok.kind hk hc z (fun h' hc' hs=>?_)
   obtain ⟨oc,hoc,hocd⟩:=id z
   refine h { s with heap:=h' } ⟨I.ok,I.os,I.bare,⟨fun b o e n hb hx=>?_,fun b o e n hb hx=>?_,I.base.free,fun b o e hx=>?_,I.base.tups,I.base.frzs,I.base.tbls⟩,⟨m,hn.sameBut hs (Ne.symm (cne x c hc)),fun j y v' e1 e2 e3=>?_⟩,fun y c' e=>?_,I.free,I.freeC,fun p hp=>?_,tracked ⟨oc,hoc,I.freeC x c hc⟩ hs,by simpa using I.len⟩ ⟨c,hs,.inr hc⟩
   · exact (hs.2 b (Nat.ne_of_lt (Nat.lt_of_lt_of_le (Heap.lt_size e) (I.ok.cab x c hfn hc)))).trans (I.base.keep b o e n hb hx)
   · obtain ⟨sl,e1⟩:=I.base.slot b o e n hb hx
     exact ⟨sl,(hs.2 b (Nat.ne_of_lt (Nat.lt_of_lt_of_le (Heap.lt_size e) (I.ok.cab x c hfn hc)))).trans e1⟩
   · obtain ⟨o',e1⟩:=I.base.there b o e hx
     exact ⟨o',(hs.2 b (Nat.ne_of_lt (Nat.lt_of_lt_of_le (Heap.lt_size e) (I.ok.cab x c hfn hc)))).trans e1⟩
   · by_cases hj:j=i
     · subst hj
       rw [hi] at e1; cases e1
       rw [List.getElem?_set_self hiσ] at e2
       cases e2
       exact ⟨u,r,.inr ⟨.inl hk,c,hc,hc'⟩⟩
     · rw [List.getElem?_set_ne (Ne.symm hj)] at e2
       obtain ⟨u',r',q⟩:=hl j y v' e1 e2 e3
       refine ⟨u',r',?_⟩
       rcases q with q | ⟨k,c',e,z'⟩
       · exact .inl q
       · refine .inr ⟨k,c',e,z'.sameBut hs ?_⟩
         rintro rfl
         exact hj (ke hN e1 (I.ok.inj _ _ _ e hc ▸ hi))
   · by_cases hcc:c'=c
     · subst hcc; exact ⟨_,hc'⟩
     · obtain ⟨w2,z2⟩:=I.cell y c' e
       exact ⟨w2,z2.sameBut hs hcc⟩
   · obtain ⟨e,n,ne,nf,d⟩:=I.pin p hp
     refine ⟨(hs.2 p.1 ?_).trans e,n,ne,nf,d⟩
     intro q
     rw [q,hoc] at e
     have q':oc=p.2:=Option.some.inj e
     exact d w' (by rw [← q']; exact hocd)
theorem gi {M:Model} {A:Around} {E:Value→Shared→Prop} {i:Nat} {x:Str} {v:V} {u:Value} {Q:Unit→Shared→Prop} (I:Inv X pins σ H s) (hN:X.N.Nodup) (hi:X.N[i]?=some x) (hx:Loc X.env.scope x) (r:RelV v u)
   (h:∀ s',Inv X pins (σ.set i (some v)) H s'→Q () s') (hf:X.fn x=true∨X.env.scope.names.lookup x=some .local:=by first | exact .inl rfl | exact .inr rfl | assumption):wpAny M A (storeName X.env x u) Q E s :=
 m8 I hN hi hx r (fun s' I' _=>h s' I') hf
theorem Inv.call' {s':Shared} {ch:List Addr} (I:Inv X pins σ H s) (ho:s'.os=s.os) (u:Un (frs X.stack) ch H H' s.heap s'.heap) (hok:HOk X.prog X.w H' s'.heap) (hg:AllBare s'.gens)
   (hch:∀ b∈ch,(b∈X.ex∨X.s₀.heap.objs.size≤b)∧b≠X.env.locals∧(∀ x c,X.env.cells.lookup x=some c→c≠b)∧∀ p∈X.pn ++ pins,p.1≠b):Inv X pins σ H' s':=by
 obtain ⟨h',g',d',t',o'⟩:=s'
 have e:o'=s.os:=ho
 subst e
 exact I.call (g':=g') (t':=t') (d':=d') u hok hg hch
end
abbrev XK:=Value→Option Addr→Hp→Prop
abbrev St:=List (Option V)
abbrev VK:=V→Hp→Prop
abbrev TE:=St→Hp→VK→Prop
abbrev TT:=St→Hp→(Bool→Hp→Prop)→Prop
abbrev TA:=St→Hp→(List V→Hp→Prop)→Prop
structure Ends where
 nx:St→Hp→Prop
 rt:VK
 bk:St→Hp→Prop:=fun _ _=>False
 ct:St→Hp→Prop:=fun _ _=>False
abbrev TS:=Ends→St→Hp→Prop
def EP (X:Cx) (pins:List (Addr × Obj)) (σ:St) (Q:VK) (u:Value) (s':Shared):Prop:=∃ v H',Inv X pins σ H' s'∧RelV v u∧Q v H'
def TP (X:Cx) (pins:List (Addr × Obj)) (σ:St) (Q:Bool→Hp→Prop) (b:Bool) (s':Shared):Prop:=∃ H',Inv X pins σ H' s'∧Q b H'
def AP (X:Cx) (pins:List (Addr × Obj)) (σ:St) (Q:List V→Hp→Prop) (us:List Value) (s':Shared):Prop:=∃ vs H',Inv X pins σ H' s'∧Vals vs us∧Q vs H'
def SP (X:Cx) (pins:List (Addr × Obj)) (D:Ends) (f:Flow) (s':Shared):Prop :=
 match f with
 | .next=>∃ σ' H',Inv X pins σ' H' s'∧D.nx σ' H'
 | .brk=>∃ σ' H',Inv X pins σ' H' s'∧D.bk σ' H'
 | .cont=>∃ σ' H',Inv X pins σ' H' s'∧D.ct σ' H'
 | .ret u=>∃ v σ' H',Inv X pins σ' H' s'∧RelV v u∧D.rt v H'
def PE (X:Cx) (e:Expr) (t:TE):Prop :=
 ∀ (pins:List (Addr × Obj)) (s:Shared) (σ:St) (H:Hp) (Q:VK),Inv X pins σ H s→t σ H Q→wpAny (model X.prog X.w) X.A (eval e X.env) (EP X pins σ Q) X.xe s
def PT (X:Cx) (e:Expr) (t:TT):Prop :=
 ∀ (pins:List (Addr × Obj)) (s:Shared) (σ:St) (H:Hp) (Q:Bool→Hp→Prop),Inv X pins σ H s→t σ H Q→wpAny (model X.prog X.w) X.A (isTrue e X.env (eval e X.env)) (TP X pins σ Q) X.xe s
def PW (X:Cx) (e:Expr) (t:TT):Prop :=
 ∀ (whole:Sem Value) (pins:List (Addr × Obj)) (s:Shared) (σ:St) (H:Hp) (Q:Bool→Hp→Prop),Inv X pins σ H s→t σ H Q→wpAny (model X.prog X.w) X.A (isTrue e X.env whole) (TP X pins σ Q) X.xe s
theorem PW.pt {X:Cx} {e:Expr} {t:TT} (h:PW X e t):PT X e t:=h _
def PA (X:Cx) (es:List Expr) (t:TA):Prop :=
 ∀ (pos:Pos) (pins:List (Addr × Obj)) (s:Shared) (σ:St) (H:Hp) (Q:List V→Hp→Prop),Inv X pins σ H s→t σ H Q→wpAny (model X.prog X.w) X.A (spliced (backTo pos (starEach es X.env))) (AP X pins σ Q) X.xe s
def PS (X:Cx) (st:Stmt) (t:TS):Prop :=
 ∀ (pins:List (Addr × Obj)) (s:Shared) (σ:St) (H:Hp) (D:Ends),Inv X pins σ H s→t D σ H→wpAny (model X.prog X.w) X.A (exec st X.env) (SP X pins D) X.xe s
def PSs (X:Cx) (st:List Stmt) (t:TS):Prop :=
 ∀ (pins:List (Addr × Obj)) (s:Shared) (σ:St) (H:Hp) (D:Ends),Inv X pins σ H s→t D σ H→wpAny (model X.prog X.w) X.A (execs st X.env) (SP X pins D) X.xe s
theorem thn {α:Type} {t:Sem α} {Q Q':α→Shared→Prop} {M:Model} {A:Around} {E:Value→Shared→Prop} {s:Shared} (h:wpAny M A t Q E s) (hQ:∀ a s,Q a s→Q' a s):wpAny M A t Q' E s:=wpAny_mono h hQ fun _ _ x=>x
theorem bj {t:Sem Value} {X:Cx} {pins:List (Addr × Obj)} {σ:St} {Q:VK} {Q':Value→Shared→Prop} {M:Model} {A:Around} {E:Value→Shared→Prop} {s:Shared} (h:wpAny M A t (EP X pins σ Q) E s) (hQ:∀ u s v H,Inv X pins σ H s→RelV v u→Q v H→Q' u s):wpAny M A t Q' E s:=thn h fun u s ⟨v,H,I,r,q⟩=>hQ u s v H I r q
theorem gJ {t:Sem (List Value)} {X:Cx} {pins:List (Addr × Obj)} {σ:St} {Q:List V→Hp→Prop} {Q':List Value→Shared→Prop} {M:Model} {A:Around} {E:Value→Shared→Prop} {s:Shared} (h:wpAny M A t (AP X pins σ Q) E s) (hQ:∀ u s v H,Inv X pins σ H s→Vals v u→Q v H→Q' u s):wpAny M A t Q' E s:=thn h fun u s ⟨v,H,I,r,q⟩=>hQ u s v H I r q
theorem mz {t:Sem Bool} {X:Cx} {pins:List (Addr × Obj)} {σ:St} {Q:Bool→Hp→Prop} {Q':Bool→Shared→Prop} {M:Model} {A:Around} {E:Value→Shared→Prop} {s:Shared} (h:wpAny M A t (TP X pins σ Q) E s) (hQ:∀ u s H,Inv X pins σ H s→Q u H→Q' u s):wpAny M A t Q' E s:=thn h fun u s ⟨H,I,q⟩=>hQ u s H I q
end L2
namespace L2
open PySem PySem.Spec PyProof.Rows
section
variable {X:Cx}
def mf (i:Nat):TE:=fun σ H Q=>∃ v,σ[i]?=some (some v)∧Q v H
def tC (v:V):TE:=fun _ H Q=>Q v H
theorem pF {i:Nat} {x:Str} {pos:Pos} (hN:X.N[i]?=some x) (hv:Vis X.env.scope x) (hd:(x == ("__debug__":Str))=false:=by decide) (hcd:(x == ("__classdict__":Str))=false:=by decide):PE X (.Name x pos) (mf i):=by
 intro pins s σ H Q I h
 obtain ⟨v,e,h⟩:=h
 obtain ⟨m,hn,hl⟩:=I.loc
 obtain ⟨u,r,l⟩:=hl i x v hN e hv
 have fin:EP X pins σ Q u s:=⟨v,H,I,r,h⟩
 rcases l with ⟨hk,hm⟩ | ⟨hk,c,hc,hcell⟩
 · exact wpAny_Name (wpAny_loadName_local I.ok.kind hk hn hm fin) hd
 · rcases hk with hk | hk
   · exact wpAny_Name (wpAny_loadName_cell I.ok.kind hk hc hcell fin) hd
   · exact wpAny_Name (wpAny_loadName_free I.ok.kind hk hc hcell fin hcd) hd
theorem ak {i j pos}:PE X (.Constant (.int i) j pos) (tC (.int i)):=fun _ _ _ H _ I h=>wpAny_Constant_int ⟨.int i,H,I.tok _,⟨_,rfl⟩,h⟩
theorem cg {b j pos}:PE X (.Constant (.bool b) j pos) (tC (.bl b)):=fun _ _ _ H _ I h=>Constant_bool ⟨.bl b,H,I,rfl,h⟩
theorem Aj {j pos}:PE X (.Constant .none j pos) (tC .non):=fun _ _ _ H _ I h=>Constant_none ⟨.non,H,I,rfl,h⟩
theorem eA {x j pos}:PE X (.Constant (.str x) j pos) (tC (.str x)):=fun _ _ _ H _ I h=>Calls.Constant_str ⟨.str x,H,I.tok _,⟨_,rfl⟩,h⟩
def Gl (X:Cx) (x:Str):Prop:=X.env.kindOf x=some .globalImplicit
theorem dH {E:Value→Shared→Prop} {pins:List (Addr × Obj)} {s:Shared} {σ:St} {H:Hp} {x:Str} {u:Value} {pos:Pos} {Q:Value→Shared→Prop} (I:Inv X pins σ H s) (hg:Gl X x) (hm:X.mg x=some u) (h:Q u s)
   (hd:(x == ("__debug__":Str))=false:=by decide):wpAny (model X.prog X.w) X.A (eval (.Name x pos) X.env) Q E s :=
 Calls.Name_function_global I.ok.kind hg (Calls.loadGlobal_global (by rw [I.ok.glob]; exact I.mod.glob.keeps I.bk) hm h) hd
theorem fu {E:Value→Shared→Prop} {pins:List (Addr × Obj)} {s:Shared} {σ:St} {H:Hp} {x:Str} {u:Value} {pos:Pos} {Q:Value→Shared→Prop} (I:Inv X pins σ H s) (hg:Gl X x) (hm:X.mg x=none) (hv:bootBuiltins x=some u) (h:Q u s)
   (hn:x≠"__name__":=by decide) (hd:(x == ("__debug__":Str))=false:=by decide):wpAny (model X.prog X.w) X.A (eval (.Name x pos) X.env) Q E s:=by
 obtain ⟨mb,h1,h2⟩:=I.mod.blt
 exact Calls.Name_function_global I.ok.kind hg (Calls.loadGlobal_builtin (by rw [I.ok.glob]; exact I.mod.glob.keeps I.bk) hm (by rw [I.ok.blt]; exact h1.keeps I.bk) ((h2 x hn).trans hv) h) hd
theorem ff {x:Str} {v:V} {u:Value} {pos:Pos} (hg:Gl X x) (hm:X.mg x=some u) (r:RelV v u) (hd:(x == ("__debug__":Str))=false:=by decide):PE X (.Name x pos) (tC v) :=
 fun _ _ _ H _ I h=>dH I hg hm ⟨v,H,I,r,h⟩ hd
theorem yR {x:Str} {v:V} {u:Value} {pos:Pos} (hg:Gl X x) (hm:X.mg x=none) (hv:bootBuiltins x=some u) (r:RelV v u) (hn:x≠"__name__":=by decide) (hd:(x == ("__debug__":Str))=false:=by decide):PE X (.Name x pos) (tC v) :=
 fun _ _ _ H _ I h=>fu I hg hm hv ⟨v,H,I,r,h⟩ hn hd
variable {a b:Expr} {ta tb:TE} {pos:Pos}
def PC (X:Cx) (op:CmpOp) (a b:Expr) (t:TE):Prop :=
 ∀ (pins:List (Addr × Obj)) (s:Shared) (σ:St) (H:Hp) (Q:VK),Inv X pins σ H s→t σ H Q →
   wpAny (model X.prog X.w) X.A (eval a X.env) (fun v s₁=>wpAny (model X.prog X.w) X.A (eval b X.env) (fun u s₂=>wpAny (model X.prog X.w) X.A (compareOp op v u) (EP X pins σ Q) X.xe s₂) X.xe s₁) X.xe s
def zD (ta:TE):TE:=fun σ H Q=>ta σ H fun x H1=>Q (.bl (decide (x=.non))) H1
def yE (ta:TE):TE:=fun σ H Q=>ta σ H fun x H1=>Q (.bl (!decide (x=.non))) H1
def tB (t:TE):TT:=fun σ H Q=>t σ H fun x H1=>∃ c,x=.bl c∧Q c H1
theorem Am {op:CmpOp} {t:TE} (h:PC X op a b t) (h1:behindInMarks op b=false:=by first | exact nobehind _ (by decide) (by decide) | rfl):PT X (.Compare a [op] [b] pos) (tB t):=by
 intro pins s σ H Q I hw
 refine wpAny_isTrue_Compare1 (thn (h pins s σ H _ I hw) fun v s1 h1=>thn h1 fun u s2 h2=>thn h2 fun c s3 ⟨x,H1,I1,r1,q1⟩=>?_) h1
 obtain ⟨d,rfl,q⟩:=q1
 cases r1
 exact wpAny_truthy_bool ⟨H1,I1,q⟩
theorem gh {e:Expr} {t:TE} (h:PE X e t) (he:∀ whole,isTrue e X.env whole=(do let v ← whole; standAt e.pos; holding [v] (truthy v)):=by intro _; rfl):PT X e (tB t):=by
 intro pins s σ H Q I hw
 refine isTrue_plain (bj (h pins s σ H _ I hw) fun v s1 x H1 I1 r1 q1=>?_) (he _)
 obtain ⟨d,rfl,q⟩:=q1
 cases r1
 exact wpAny_truthy_bool ⟨H1,I1,q⟩
variable {tA tB':TT} {rest:List Expr}
def xD (t u:TT):TT:=fun σ H Q=>t σ H fun c H1=>if c=true then u σ H1 Q else Q false H1
def tOr (t u:TT):TT:=fun σ H Q=>t σ H fun c H1=>if c=true then Q true H1 else u σ H1 Q
def vC (t:TT):TT:=fun σ H Q=>t σ H fun c H1=>Q (!c) H1
theorem jJ (ha:PT X a tA):PW X (.BoolOp .And [a] pos) tA:=by
 intro wh pins s σ H Q I h
 refine isTrue_and (thn (ha pins s σ H Q I h) fun c s1 e=>?_)
 cases c with
 | true=>exact isTrue_and_nil e
 | false=>exact e
theorem zH (ha:PT X a tA):PW X (.BoolOp .Or [a] pos) tA:=by
 intro wh pins s σ H Q I h
 refine isTrue_or (thn (ha pins s σ H Q I h) fun c s1 e=>?_)
 cases c with
 | false=>exact isTrue_or_nil e
 | true=>exact e
theorem lD (ha:PT X a tA) (hb:PW X (.BoolOp .And (b :: rest) pos) tB'):PW X (.BoolOp .And (a :: b :: rest) pos) (xD tA tB'):=by
 intro wh pins s σ H Q I h
 refine isTrue_and (mz (ha pins s σ H _ I h) fun c s1 H1 I1 q1=>?_)
 cases c with
 | true=>exact hb wh pins s1 σ H1 Q I1 q1
 | false=>exact ⟨H1,I1,q1⟩
theorem A1 (ha:PT X a tA) (hb:PW X (.BoolOp .Or (b :: rest) pos) tB'):PW X (.BoolOp .Or (a :: b :: rest) pos) (tOr tA tB'):=by
 intro wh pins s σ H Q I h
 refine isTrue_or (mz (ha pins s σ H _ I h) fun c s1 H1 I1 q1=>?_)
 cases c with
 | true=>exact ⟨H1,I1,q1⟩
 | false=>exact hb wh pins s1 σ H1 Q I1 q1
theorem fw (ha:PT X a tA):PT X (.UnaryOp .Not a pos) (vC tA):=by
 intro pins s σ H Q I h
 exact isTrue_not (ha pins s σ H (fun c H1=>Q (!c) H1) I h)
def rB (ta tb:TE):TE:=fun σ H Q=>ta σ H fun x H1=>∃ c,x=.bl c∧if c=true then tb σ H1 Q else Q (.bl false) H1
def zJ (ta tb:TE):TE:=fun σ H Q=>ta σ H fun x H1=>∃ c,x=.bl c∧if c=true then Q (.bl true) H1 else tb σ H1 Q
def qT (ta:TE):TE:=fun σ H Q=>ta σ H fun x H1=>∃ c,x=.bl c∧Q (.bl (!c)) H1
theorem lF {op} {t:TE} (h:PE X a t):PE X (.BoolOp op [a] pos) t:=fun pins s σ H Q I hw=>BoolOp_one (h pins s σ H Q I hw)
theorem ju (ha:PE X a ta) (hb:PE X (.BoolOp .And (b :: rest) pos) tb):PE X (.BoolOp .And (a :: b :: rest) pos) (rB ta tb):=by
 intro pins s σ H Q I h
 refine BoolOp_and (bj (ha pins s σ H _ I h) fun v s1 x H1 I1 r1 q1=>?_)
 obtain ⟨c,rfl,q1⟩:=q1
 cases r1
 refine wpAny_truthy_bool ?_
 cases c with
 | true=>exact hb pins s1 σ H1 Q I1 q1
 | false=>exact ⟨.bl false,H1,I1,rfl,q1⟩
theorem AI (ha:PE X a ta):PE X (.UnaryOp .Not a pos) (qT ta):=by
 intro pins s σ H Q I h
 refine UnaryOp_ (bj (ha pins s σ H _ I h) fun v s1 x H1 I1 r1 q1=>?_)
 obtain ⟨c,rfl,q1⟩:=q1
 cases r1
 exact not_of (wpAny_truthy_bool ⟨.bl (!c),H1,I1,rfl,q1⟩)
def tIf (t:TT) (ta tb:TE):TE:=fun σ H Q=>t σ H fun c H1=>if c=true then ta σ H1 Q else tb σ H1 Q
end
end L2
namespace L2
open PySem PySem.Spec PyProof.Rows
def SqL (K:PySem.W.Frag) (H:Hp) (a:Addr) (xs:List V):Prop :=
 Rd H a (.lst xs) ∨
   ∃ (o:Obj) (its:Array Value) (n:Nat),K.lookup a=some o∧o.cls=.type "list"∧o.dict=none∧o.data=.seq its n∧its.size≤sizeLine∧Vals xs its.toList
def SqT (K:PySem.W.Frag) (H:Hp) (a:Addr) (xs:List V):Prop :=
 Rd H a (.tup xs) ∨
   ∃ (o:Obj) (its:Array Value) (n:Nat),K.lookup a=some o∧o.cls=.type "tuple"∧o.data=.seq its n∧its.size≤sizeLine∧Vals xs its.toList
def Bd:Value→Option V
 | .none=>some .non
 | .bool b=>some (.bl b)
 | .int i _=>some (.int i)
 | .str x _=>some (.str x)
 | .bytes b _=>some (.byt b)
 | .float b _=>some (.flt b)
 | .ref a=>some (.ref a)
 | .type n=>some (.ty n)
 | _=>none
theorem RelV.abs {x:V} {u:Value} (r:RelV x u):Bd u=some x:=by
 cases x with
 | non=>cases r; rfl
 | bl _=>cases r; rfl
 | int _=>obtain ⟨t,rfl⟩:=r; rfl
 | str _=>obtain ⟨t,rfl⟩:=r; rfl
 | byt _=>obtain ⟨t,rfl⟩:=r; rfl
 | flt _=>obtain ⟨t,rfl⟩:=r; rfl
 | ref _=>cases r; rfl
 | ty _=>cases r; rfl
theorem RelV.inj {x y:V} {u:Value} (r:RelV x u) (q:RelV y u):x=y:=Option.some.inj (r.abs.symm.trans q.abs)
theorem Vals.inj {xs ys:List V} {us:List Value} (h:Vals xs us) (h2:Vals ys us):xs=ys:=by
 induction h generalizing ys with
 | nil=>cases h2; rfl
 | cons r _ ih=>cases h2 with | cons r2 t2=>rw [r.inj r2,ih t2]
section
variable {X:Cx} {pins:List (Addr × Obj)} {σ:St} {H:Hp} {s:Shared} {a:Addr} {xs ys:List V}
theorem SqL.of {K:PySem.W.Frag} (h:H a=some (.lst xs)):SqL K H a xs:=.inl (.inl h)
theorem SqT.of {K:PySem.W.Frag} (h:H a=some (.tup xs)):SqT K H a xs:=.inl (.inl h)
theorem Inv.list (I:Inv X pins σ H s) (h:SqL X.K H a xs):∃ its:List Value,Vals xs its∧PlainL s.heap a its.toArray∧xs.length≤sizeLine:=by
 rcases h with h | ⟨o,its,n,hk,hc,hd,hs,hz,r⟩
 · obtain ⟨z,its,n,r,e⟩:=h.ok I.hok
   exact ⟨its,r,⟨_,n,e,rfl,rfl,rfl⟩,z⟩
 · refine ⟨its.toList,r,⟨o,n,I.kIn a o hk,hc,hd,by simpa using hs⟩,?_⟩
   have e:=r.length
   simp only [Array.length_toList] at e
   omega
theorem Inv.tuple (I:Inv X pins σ H s) (h:SqT X.K H a xs):∃ its:List Value,Vals xs its∧IsTup s.heap a its.toArray∧xs.length≤sizeLine:=by
 rcases h with h | ⟨o,its,n,hk,hc,hs,hz,r⟩
 · obtain ⟨z,its,r,p⟩:=h.ok I.hok
   exact ⟨its,r,p,z⟩
 · refine ⟨its.toList,r,⟨o,I.kIn a o hk,hc,n,by simpa using hs⟩,?_⟩
   have e:=r.length
   simp only [Array.length_toList] at e
   omega
theorem Inv.list_inj (I:Inv X pins σ H s) (h:SqL X.K H a xs) (h':SqL X.K H a ys):xs=ys:=by
 obtain ⟨its,r,⟨o,n,e,_,_,d⟩,_⟩:=I.list h
 obtain ⟨its',r',⟨o',n',e',_,_,d'⟩,_⟩:=I.list h'
 rw [e] at e'; cases e'
 rw [d] at d'
 injection d' with d1 _
 have:its=its':=by simpa using congrArg Array.toList d1
 subst this
 exact r.inj r'
theorem Inv.tuple_inj (I:Inv X pins σ H s) (h:SqT X.K H a xs) (h':SqT X.K H a ys):xs=ys:=by
 obtain ⟨its,r,⟨o,e,_,n,d⟩,_⟩:=I.tuple h
 obtain ⟨its',r',⟨o',e',_,n',d'⟩,_⟩:=I.tuple h'
 rw [e] at e'; cases e'
 rw [d] at d'
 injection d' with d1 _
 have:its=its':=by simpa using congrArg Array.toList d1
 subst this
 exact r.inj r'
end
abbrev Cx.wish (X:Cx) (E:Value→Shared→Prop):Cx:={ X with xe:=E }
abbrev Cx.nox (X:Cx):Cx:=X.wish fun _ _=>False
theorem Cx.Ok.wish {X:Cx} (ok:X.Ok) (E:Value→Shared→Prop):(X.wish E).Ok :=
 ⟨ok.mod,ok.kind,ok.glob,ok.blt,ok.above,ok.inj,ok.has,ok.cab,ok.hd,ok.frames,ok.stk,ok.exf,ok.bs,ok.bsz,ok.noex,ok.exfs,ok.funs,ok.frf⟩
theorem Cx.Ok.unwish {X:Cx} {E:Value→Shared→Prop} (ok:(X.wish E).Ok):X.Ok :=
 ⟨ok.mod,ok.kind,ok.glob,ok.blt,ok.above,ok.inj,ok.has,ok.cab,ok.hd,ok.frames,ok.stk,ok.exf,ok.bs,ok.bsz,ok.noex,ok.exfs,ok.funs,ok.frf⟩
section
variable {X:Cx} {pins:List (Addr × Obj)} {σ:St} {H:Hp} {s:Shared} {E:Value→Shared→Prop}
theorem Inv.wish (I:Inv X pins σ H s) (E:Value→Shared→Prop):Inv (X.wish E) pins σ H s:=⟨I.ok.wish E,I.os,I.bare,I.base,I.loc,I.cell,I.free,I.freeC,I.pin,I.hok,I.len⟩
theorem Inv.unwish (I:Inv (X.wish E) pins σ H s):Inv X pins σ H s:=⟨I.ok.unwish,I.os,I.bare,I.base,I.loc,I.cell,I.free,I.freeC,I.pin,I.hok,I.len⟩
theorem SP.unwish {D:Ends} {f:Flow} {s':Shared} (h:SP (X.wish E) pins D f s'):SP X pins D f s':=by
 cases f with
 | next=>obtain ⟨σ',H',I,q⟩:=h; exact ⟨σ',H',I.unwish,q⟩
 | brk=>obtain ⟨σ',H',I,q⟩:=h; exact ⟨σ',H',I.unwish,q⟩
 | cont=>obtain ⟨σ',H',I,q⟩:=h; exact ⟨σ',H',I.unwish,q⟩
 | ret u=>obtain ⟨v,σ',H',I,r,q⟩:=h; exact ⟨v,σ',H',I.unwish,r,q⟩
theorem PSs.nox {st:List Stmt} {t:TS} (h:PSs X.nox st t):PSs X st t:=fun pins s σ H D I hw =>
 wpAny_mono (h pins s σ H D (I.wish _) hw) (fun _ _ q=>q.unwish) fun _ _ z=>False.elim z
end
section
variable {X:Cx} {st:Stmt} {rest:List Stmt} {t u:TS} {e:Expr} {te:TE} {pos:Pos}
def tNext:TS:=fun D σ H=>D.nx σ H
def rR (t u:TS):TS:=fun D σ H=>t { D with nx:=u D } σ H
theorem aF:PSs X [] tNext:=fun _ _ σ H _ I h=>wpAny_execs_nil ⟨σ,H,I,h⟩
theorem am (h1:PS X st t) (h2:PSs X rest u):PSs X (st :: rest) (rR t u):=by
 intro pins s σ H D I h
 refine wpAny_execs_cons (thn (h1 pins s σ H { D with nx:=u D } I h) fun f s1 q=>?_)
 cases f with
 | next =>
   obtain ⟨σ',H',I',q⟩:=q
   exact h2 pins s1 σ' H' D I' q
 | ret v=>exact q
 | brk=>exact q
 | cont=>exact q
theorem ao (h1:PS X st t):PSs X [st] t:=by
 intro pins s σ H D I h
 refine wpAny_execs_cons (thn (h1 pins s σ H D I h) fun f s1 q=>?_)
 cases f with
 | next=>exact wpAny_execs_nil q
 | ret v=>exact q
 | brk=>exact q
 | cont=>exact q
theorem Inv.quiet {pins:List (Addr × Obj)} {σ:St} {H:Hp} {s:Shared} (I:Inv X pins σ H s):interactive X.env=false:=by simp [interactive,I.ok.kind]
def q9 (te:TE):TS:=fun D σ H=>te σ H fun _ H1=>D.nx σ H1
theorem bG (he:PE X e te) (hs:swapsWith e none pos.line X.env=pure false:=by rfl):PS X (.Expr e pos) (q9 te):=by
 intro pins s σ H D I h
 exact wpAny_Expr_any (bj (he pins s σ H _ I h) fun v s1 x H1 I1 r1 q1=>⟨σ,H1,I1,q1⟩) I.quiet hs
def ye (te:TE):TS:=fun D σ H=>te σ H D.rt
theorem aB (he:PE X e te):PS X (.Return (some e) pos) (ye te):=by
 intro pins s σ H D I h
 exact wpAny_Return_some (bj (he pins s σ H _ I h) fun v s1 x H1 I1 r1 q1=>⟨x,σ,H1,I1,r1,q1⟩)
def yB:TS:=fun D _ H=>D.rt .non H
def wO (c:TT) (t u:TS):TS:=fun D σ H=>c σ H fun b H1=>if b=true then t D σ H1 else u D σ H1
theorem aX {c:Expr} {a b:List Stmt} {tc:TT} (hc:PT X c tc) (ha:PSs X a t) (hb:PSs X b u):PS X (.If c a b pos) (wO tc t u):=by
 intro pins s σ H D I h
 refine wpAny_If (mz (hc pins s σ H _ I h) fun d s1 H1 I1 q1=>?_)
 cases d with
 | true=>exact ha pins s1 σ H1 D I1 q1
 | false=>exact hb pins s1 σ H1 D I1 q1
def tNever:TS:=fun _ _ _=>False
theorem eZ:PS X st tNever:=fun _ _ _ _ _ _ h=>h.elim
end
abbrev TG:=V→St→Hp→(St→Hp→Prop)→Prop
abbrev TGs:=List V→St→Hp→(St→Hp→Prop)→Prop
def PG (X:Cx) (target:Expr) (t:TG):Prop :=
 ∀ (pins:List (Addr × Obj)) (s:Shared) (σ:St) (H:Hp) (v:V) (u:Value) (Q:St→Hp→Prop),Inv X pins σ H s→RelV v u→t v σ H Q →
   wpAny (model X.prog X.w) X.A (assign target X.env u) (fun _ s'=>∃ σ' H',Inv X pins σ' H' s'∧Q σ' H') X.xe s
def PGs (X:Cx) (ts:List Expr) (t:TGs):Prop :=
 ∀ (pins:List (Addr × Obj)) (s:Shared) (σ:St) (H:Hp) (vs:List V) (us:List Value) (Q:St→Hp→Prop),Inv X pins σ H s→Vals vs us→t vs σ H Q →
   wpAny (model X.prog X.w) X.A (assignInOrder ((assignEach ts X.env).map (·.2)) us) (fun _ s'=>∃ σ' H',Inv X pins σ' H' s'∧Q σ' H') X.xe s
abbrev pi:=V→V→V→Hp→(Hp→Prop)→Prop
def uW (X:Cx) (t:pi):Prop :=
 ∀ (pins:List (Addr × Obj)) (s:Shared) (σ:St) (H:Hp) (o i v:V) (ov iv u:Value) (Q:Hp→Prop),Inv X pins σ H s→RelV o ov→RelV i iv→RelV v u→t o i v H Q →
   wpAny (model X.prog X.w) X.A (setItem ov iv u) (fun _ s'=>∃ H',Inv X pins σ H' s'∧Q H') X.xe s
abbrev TIp:=V→V→Hp→VK→Prop
def PIp (X:Cx) (op:Operator) (t:TIp):Prop :=
 ∀ (pins:List (Addr × Obj)) (s:Shared) (σ:St) (H:Hp) (x y:V) (v u:Value) (Q:VK),Inv X pins σ H s→RelV x v→RelV y u→t x y H Q →
   wpAny (model X.prog X.w) X.A (inplaceOp op v u) (EP X pins σ Q) X.xe s
section
variable {X:Cx} {pos:Pos}
def lZ (i:Nat):TG:=fun v σ H Q=>Q (σ.set i (some v)) H
theorem aO {i:Nat} {x:Str} (hN:X.N.Nodup) (hi:X.N[i]?=some x) (hx:Loc X.env.scope x) (hf:X.fn x=true∨X.env.scope.names.lookup x=some .local:=by first | exact .inl rfl | exact .inr rfl | assumption):PG X (.Name x pos) (lZ i):=by
 intro pins s σ H v u Q I r h
 exact wpAny_assign_Name (gi I hN hi hx r (fun s' I'=>⟨_,H,I',h⟩) hf)
def gNil:TGs:=fun vs σ H Q=>vs=[]∧Q σ H
def rS (t:TG) (u:TGs):TGs:=fun vs σ H Q=>∃ v r,vs=v :: r∧t v σ H fun σ' H'=>u r σ' H' Q
theorem fe:PGs X [] gNil:=by
 intro pins s σ H vs us Q I r h
 obtain ⟨e,h⟩:=h
 subst e
 cases r
 exact assignInOrder_nil ⟨σ,H,I,h⟩
theorem bX {e:Expr} {es:List Expr} {t:TG} {u:TGs} (h1:PG X e t) (h2:PGs X es u)
   (hs:(assignEach (e :: es) X.env).map (·.2)=assign e X.env :: (assignEach es X.env).map (·.2):=by rfl):PGs X (e :: es) (rS t u):=by
 intro pins s σ H vs us Q I r h
 obtain ⟨v,vr,e1,h⟩:=h
 subst e1
 cases r with
 | cons r rr =>
   rw [hs]
   refine assignInOrder_cons (thn (h1 pins s σ H _ _ _ I r h) fun _ s1 ⟨σ1,H1,I1,q1⟩=>?_)
   exact h2 pins s1 σ1 H1 _ _ Q I1 rr q1
def rm (K:PySem.W.Frag) (n:Nat) (t:TGs):TG:=fun v σ H Q=>∃ a xs,v=.ref a∧SqT K H a xs∧xs.length=n∧t xs σ H Q
theorem gk {es:List Expr} {k:Nat} {t:TGs} {n:Nat} (hc:X.calm=true) (h:PGs X es t)
   (hn:(assignEach es X.env).length=n:=by rfl) (hst:(assignEach es X.env).findIdx? (·.1)=none:=by rfl):PG X (.Tuple es k pos) (rm X.K n t):=by
 intro pins s σ H v u Q I r hw
 obtain ⟨a,xs,e1,hq,hl,hw⟩:=hw
 subst e1
 cases r
 obtain ⟨its,rv,ht,hz⟩:=I.tuple hq
 refine assign_Tuple_tuple (I.ok.hd hc) ht (by simp [hn,← hl,rv.length]) hst fun h' hx=>?_
 have I1:Inv X pins σ H { s with heap:=h' }:=I.kept (t':=s.toks) fun b o e=>hx b o (Nat.ne_of_lt (Heap.lt_size e)) e
 exact h pins _ σ H xs _ Q I1 (by simpa using rv) hw
def vz (to ti:TE) (t:pi):TG:=fun v σ H Q=>to σ H fun o H1=>ti σ H1 fun i H2=>t o i v H2 fun H3=>Q σ H3
theorem jd {o i:Expr} {to ti:TE} {t:pi} (ho:PE X o to) (hi:PE X i ti) (hs:uW X t)
   (ha:∀ v,assign (.Subscript o i pos) X.env v=(do
     let ov ← holding [v] (eval o X.env)
     let iv ← holding [v,ov] (eval i X.env)
     standAt pos
     holding [v,ov,iv] (setItem ov iv v)
     release [v,ov,iv] []):=by intro _; rfl):PG X (.Subscript o i pos) (vz to ti t):=by
 intro pins s σ H v u Q I r h
 rw [ha]
 refine wpAny_bind (wpAny_holding (bj (ho pins s σ H _ I h) fun ov s1 x H1 I1 r1 q1=>?_))
 refine wpAny_bind (wpAny_holding (bj (hi pins s1 σ H1 _ I1 q1) fun iv s2 y H2 I2 r2 q2=>?_))
 refine wpAny_bind (wpAny_standAt (wpAny_bind (wpAny_holding (thn (hs pins s2 σ H2 x y v ov iv u _ I2 r1 r2 r q2) fun _ s3 ⟨H3,I3,q3⟩=>?_))))
 exact wpAny_release ⟨σ,H3,I3,q3⟩
def oU (te:TE) (g:TG):TS:=fun D σ H=>te σ H fun x H1=>g x σ H1 D.nx
theorem gZ {tg e:Expr} {te:TE} {g:TG} (he:PE X e te) (hg:PG X tg g) (hs:swapsWithSole [tg] e pos.line X.env=pure false:=by rfl) (hw:swappedStores [tg] e X.env=pure none:=by rfl)
   (h1:(assignEach [tg] X.env).map (·.2)=[assign tg X.env]:=by rfl):PS X (.Assign [tg] e pos) (oU te g):=by
 intro pins s σ H D I h
 refine wpAny_Assign_stores (bj (he pins s σ H _ I h) fun v s1 x H1 I1 r1 q1=>?_) hs hw
 rw [h1]
 exact thn (hg pins s1 σ H1 x v _ I1 r1 q1) fun _ s2 q=>q
theorem ay {i:Nat} {x:Str} {e:Expr} {te:TE} {pos':Pos} (hN:X.N.Nodup) (hi:X.N[i]?=some x) (hx:Loc X.env.scope x) (he:PE X e te) (hs:swapsWith e (some (.Name x pos')) pos.line X.env=pure false:=by rfl) (hf:X.fn x=true∨X.env.scope.names.lookup x=some .local:=by first | exact .inl rfl | exact .inr rfl | assumption) :
   PS X (.Assign [.Name x pos'] e pos) (oU te (lZ i)):=by
 intro pins s σ H D I h
 refine wpAny_Assign_Name (bj (he pins s σ H _ I h) fun v s1 y H1 I1 r1 q1=>?_) hs
 exact gi I1 hN hi hx r1 (fun s2 I2=>⟨_,H1,I2,q1⟩) hf
def zE (i:Nat) (te:TE) (ti:TIp):TS:=fun D σ H=>∃ x,σ[i]?=some (some x)∧te σ H fun y H1=>ti x y H1 fun z H2=>D.nx (σ.set i (some z)) H2
def rP (to ti te:TE) (tget:V→V→Hp→VK→Prop) (tip:TIp) (tset:pi):TS:=fun D σ H=>to σ H fun o H1=>ti σ H1 fun i H2=>tget o i H2 fun x H3=>te σ H3 fun y H4=>tip x y H4 fun z H5=>tset o i z H5 fun H6=>D.nx σ H6
def zO (X:Cx) (t:V→V→Hp→VK→Prop):Prop :=
 ∀ (pins:List (Addr × Obj)) (s:Shared) (σ:St) (H:Hp) (o i:V) (ov iv:Value) (Q:VK),Inv X pins σ H s→RelV o ov→RelV i iv→t o i H Q →
   wpAny (model X.prog X.w) X.A (getItem ov iv) (EP X pins σ Q) X.xe s
theorem l9 {o i e:Expr} {to ti te:TE} {tget:V→V→Hp→VK→Prop} {tip:TIp} {tset:pi} {op:Operator} {tpos:Pos} (ho:PE X o to) (hi:PE X i ti) (hg:zO X tget) (he:PE X e te) (hp:PIp X op tip) (hs:uW X tset)
   (ha:∀ ov iv new,augStore i ov iv new=(do holding [new,ov,iv] (setItem ov iv new); release [new,ov,iv] []; pure .next):=by intros; rfl):PS X (.AugAssign (.Subscript o i tpos) op e pos) (rP to ti te tget tip tset):=by
 intro pins s σ H D I h
 refine wpAny_AugAssign_SubscriptAny (bj (ho pins s σ H _ I h) fun ov s1 x1 H1 I1 r1 q1=>?_) ha
 refine bj (hi pins s1 σ H1 _ I1 q1) fun iv s2 x2 H2 I2 r2 q2=>?_
 refine thn (hg pins s2 σ H2 x1 x2 ov iv _ I2 r1 r2 q2) fun old s3 ⟨x3,H3,I3,r3,q3⟩=>?_
 refine bj (he pins s3 σ H3 _ I3 q3) fun v s4 x4 H4 I4 r4 q4=>?_
 refine thn (hp pins s4 σ H4 x3 x4 old v _ I4 r3 r4 q4) fun new s5 ⟨x5,H5,I5,r5,q5⟩=>?_
 exact thn (hs pins s5 σ H5 x1 x2 x5 ov iv new _ I5 r1 r2 r5 q5) fun _ s6 ⟨H6,I6,q6⟩=>⟨σ,H6,I6,q6⟩
def ipI (f:Int→Int→Int):TIp:=fun x y H Q=>∃ i j,x=.int i∧y=.int j∧Q (.int (f i j)) H
theorem tj:PIp X .Add (ipI fun i j=>i + j):=by
 intro pins s σ H x y v u Q I r1 r2 h
 obtain ⟨i,j,e1,e2,q⟩:=h
 subst e1; subst e2
 obtain ⟨t,rfl⟩:=r1
 obtain ⟨t',rfl⟩:=r2
 exact iadd_int ⟨.int _,H,I.tok _,⟨_,rfl⟩,q⟩
theorem zA:PIp X .Sub (ipI fun i j=>i - j):=by
 intro pins s σ H x y v u Q I r1 r2 h
 obtain ⟨i,j,e1,e2,q⟩:=h
 subst e1; subst e2
 obtain ⟨t,rfl⟩:=r1
 obtain ⟨t',rfl⟩:=r2
 exact isub_int ⟨.int _,H,I.tok _,⟨_,rfl⟩,q⟩
end
section
variable {X:Cx} {pos:Pos}
def oC (c:TT) (tb:TS):TS:=fun D σ H=>∃ W:Nat→St→Hp→Prop,(∃ m,W m σ H)∧∀ m σ H,W m σ H →
 c σ H fun b H1=>if b=true then ∃ N:St→Hp→Prop,(∀ σ' H',N σ' H'→∃ m',m' < m∧W m' σ' H')∧tb { D with nx:=N,ct:=N,bk:=D.nx } σ H1 else D.nx σ H1
theorem kX {c:Expr} {body:List Stmt} {tc:TT} {tb:TS} (hp:PassesOwn (model X.prog X.w) X.A X.env X.xe) (hc:PT X c tc) (hb:PSs X body tb):PS X (.While c body [] pos) (oC tc tb):=by
 intro pins s σ H D I h
 obtain ⟨W,⟨m0,w0⟩,turn⟩:=h
 refine wpAny_While (codeAny_whileLoop (fun n s'=>∃ σ' H',Inv X pins σ' H' s'∧W n σ' H') ?_ m0 ⟨σ,H,I,w0⟩)
 rintro n s1 ⟨σ1,H1,I1,w1⟩
 refine wpAny_passesOwn hp (mz (hc pins s1 σ1 H1 _ I1 (turn n σ1 H1 w1)) fun b s2 H2 I2 q2=>?_)
 cases b with
 | true =>
   obtain ⟨N,hN,q2⟩:=q2
   rw [if_pos rfl]
   refine wpAny_passesOwn hp (thn (hb pins s2 σ1 H2 _ I2 q2) fun f s3 q3=>?_)
   cases f with
   | next =>
     obtain ⟨σ3,H3,I3,n3⟩:=q3
     obtain ⟨m',hm,w3⟩:=hN σ3 H3 n3
     exact ⟨m',hm,σ3,H3,I3,w3⟩
   | cont =>
     obtain ⟨σ3,H3,I3,n3⟩:=q3
     obtain ⟨m',hm,w3⟩:=hN σ3 H3 n3
     exact ⟨m',hm,σ3,H3,I3,w3⟩
   | brk=>exact q3
   | ret v=>exact q3
 | false =>
   rw [if_neg Bool.false_ne_true]
   exact wpAny_execs_nil ⟨σ1,H2,I2,q2⟩
end
structure It where
 go:Nat→Hp→Prop
 yld:Nat→Hp→V→Hp→Prop
 stop:Nat→Hp→Prop
def dZ (X:Cx) (pins:List (Addr × Obj)) (H:Hp) (b:Addr):Prop :=
 H b=none∧b≠X.env.locals∧b ∉ X.fs∧(b∈X.ex∨X.s₀.heap.objs.size≤b)∧(∀ x c,X.env.cells.lookup x=some c→c≠b)∧∀ p∈X.pn ++ pins,p.1≠b
theorem Inv.fpOk {X:Cx} {pins:List (Addr × Obj)} {σ:St} {H H':Hp} {s:Shared} {b:Addr} (I:Inv X pins σ H s) (hb:s.heap.objs.size≤b) (hn:H' b=none):dZ X pins H' b:=by
 refine ⟨hn,Nat.ne_of_gt (Nat.lt_of_lt_of_le I.lt hb),I.nofs hb,.inr (Nat.le_trans I.sz hb),fun x c e z=>?_,fun p hp z=>?_⟩
 · obtain ⟨v,q⟩:=I.cell x c e
   exact absurd (Nat.lt_of_lt_of_le q.lt (by rw [z]; exact hb)) (Nat.lt_irrefl _)
 · exact absurd (Nat.lt_of_lt_of_le (Heap.lt_size (I.pin p hp).1) (by rw [z]; exact hb)) (Nat.lt_irrefl _)
structure Turn (P:Program) (w:World) (K:PySem.W.Frag) (tg:Expr) (J:It) (fp:List Addr) (it:Addr) (tn:Nat→Heap→Prop):Prop where
 mem:it∈fp
 obj:∀ i h,tn i h→∀ b∈fp,∃ o,h.get? b=some o∧∀ v,o.data≠.cell v
 keep:∀ i h h',tn i h→(∀ b∈fp,∀ o,h.get? b=some o→h'.get? b=some o)→tn i h'
 item:∀ (X:Cx),X.prog=P→X.w=w→X.K=K→X.calm=true→∀ (i:Nat) (pins:List (Addr × Obj)) (s:Shared) (σ:St) (H:Hp) (E:Value→Shared→Prop),Inv X pins σ H s→(∀ b∈fp,dZ X pins H b)→tn i s.heap→J.go i H →
   wpAny (model P w) X.A (pyNext (.ref it)) (fun r s1=>∃ u,r=some u ∧
     wpAny (model P w) X.A (letOwnedTupleGo tg (.ref it) u) (fun _ s2=>∃ x H',Inv X pins σ H' s2∧RelV x u∧J.yld i H x H'∧tn (i + 1) s2.heap∧∀ b∈fp,H' b=none) E s1) E s
 done:∀ (X:Cx),X.prog=P→X.w=w→X.K=K→X.calm=true→∀ (i:Nat) (pins:List (Addr × Obj)) (s:Shared) (σ:St) (H:Hp) (E:Value→Shared→Prop),Inv X pins σ H s→(∀ b∈fp,dZ X pins H b)→tn i s.heap→J.stop i H →
   wpAny (model P w) X.A (pyNext (.ref it)) (fun r s1=>r=none∧Inv X pins σ H s1) E s
 self:∀ (A:Around) (i:Nat) (s:Shared) (Q:Value→Shared→Prop) (E:Value→Shared→Prop),tn i s.heap→Q (.ref it) s→wpAny (model P w) A (pyIter (.ref it)) Q E s
abbrev TI:=St→Hp→(It→Hp→Prop)→Prop
def PIE (X:Cx) (pins:List (Addr × Obj)) (σ:St) (tg:Expr) (R:It→Hp→Prop) (itv:Value) (s2:Shared):Prop :=
 ∃ (it:Addr) (fp:List Addr) (tn:Nat→Heap→Prop) (J:It) (H':Hp),itv=.ref it∧Inv X pins σ H' s2∧Turn X.prog X.w X.K tg J fp it tn∧tn 0 s2.heap∧(∀ b∈fp,dZ X pins H' b)∧R J H'
def PI (X:Cx) (tg iter:Expr) (wi:TI):Prop :=
 ∀ (pins:List (Addr × Obj)) (s:Shared) (σ:St) (H:Hp) (R:It→Hp→Prop),Inv X pins σ H s→wi σ H R →
   wpAny (model X.prog X.w) X.A (eval iter X.env) (fun v s1=>wpAny (model X.prog X.w) X.A (pyIter v) (PIE X pins σ tg R) X.xe s1) X.xe s
theorem oj {M:Model} {A:Around} {E:Value→Shared→Prop} {s:Shared} {tg:Expr} {it:Addr} {u:Value} {o:Obj} {n:String} {vs:Array Value} {Q:Unit→Shared→Prop} (ho:s.heap.get? it=some o) (hc:o.cls=.type n) (hd:o.data=.fields vs)
   (hn:["enumerate","zip","dict_itemiterator","dict_reverseitemiterator","odict_iterator","itertools.zip_longest","itertools.pairwise"].contains n=false) (hQ:Q () s):wpAny M A (letOwnedTupleGo tg (.ref it) u) Q E s:=by
 unfold letOwnedTupleGo
 cases tg <;> first
   | exact wpAny_pure hQ
   | (cases u <;> first
       | exact wpAny_pure hQ
       | (refine wpAny_bind (wpAny_load ho ?_)
          rw [hc,hd]
          show wpAny M A (if (["enumerate","zip","dict_itemiterator","dict_reverseitemiterator","odict_iterator","itertools.zip_longest","itertools.pairwise"].contains n && vs[0]? == some (rawInt _))=true then _ else _) Q E s
          rw [if_neg (by intro h; rw [hn,Bool.false_and] at h; cases h)]
          exact wpAny_pure hQ))
def Itl (K:PySem.W.Frag) (a:Addr):It :=
 ⟨fun i H=>∃ xs x,SqL K H a xs∧xs[i]?=some x,fun i H x H'=>H'=H∧∀ xs,SqL K H a xs→xs[i]?=some x,fun i H=>∃ xs,SqL K H a xs∧xs.length≤i⟩
def Itt (K:PySem.W.Frag) (a:Addr):It :=
 ⟨fun i H=>∃ xs x,SqT K H a xs∧xs[i]?=some x,fun i H x H'=>H'=H∧∀ xs,SqT K H a xs→xs[i]?=some x,fun i H=>∃ xs,SqT K H a xs∧xs.length≤i⟩
def Itr (lo:Int) (n:Nat):It:=⟨fun i _=>i < n,fun i H x H'=>H'=H∧x=.int (lo + i),fun i _=>n≤i⟩
theorem sx {P:Program} {w:World} {K:PySem.W.Frag} {tg:Expr} (a it:Addr):Turn P w K tg (Itl K a) [it] it (fun i h=>h.IsListIter it a i) where
 mem:=by simp
 obj:=fun i h st b hb=>by
   have e:b=it:=by simpa using hb
   subst e
   obtain ⟨o,e,c,d⟩:=st
   exact ⟨o,e,fun v z=>by rw [d] at z; cases z⟩
 keep:=fun i h h' st k=>st.at fun o e=>k it (by simp) o e
 item:=by
   intro X hP hw hK hc i pins s σ H E I hf st hg
   subst hP hw hK
   obtain ⟨xs,x,hq,hx⟩:=hg
   obtain ⟨its,rv,p,hz⟩:=I.list hq
   obtain ⟨u,hu,ru⟩:=rv.get hx
   obtain ⟨f0,f1,f2,f3,f4,f5⟩:=hf it (by simp)
   refine wpAny_pyNext_list_item st p.isList (x:=u) (by simpa using hu) fun h' st' sb=>?_
   have I1:Inv X pins σ H { s with heap:=h' }:=I.turned (t':=s.toks) (fun b o hb e=>(sb.2 b hb).trans e) f0 f1 f3 f4 f5
   obtain ⟨o,e,c,d⟩:=id st'
   exact ⟨u,rfl,oj (s:={ s with heap:=h' }) e c d (by decide) ⟨x,H,I1,ru,⟨rfl,fun ys hy=>by rw [I.list_inj hy hq]; exact hx⟩,st',fun b hb=>(hf b hb).1⟩⟩
 done:=by
   intro X hP hw hK hc i pins s σ H E I hf st hg
   subst hP hw hK
   obtain ⟨xs,hq,hx⟩:=hg
   obtain ⟨its,rv,p,hz⟩:=I.list hq
   obtain ⟨f0,f1,f2,f3,f4,f5⟩:=hf it (by simp)
   have hl:=rv.length
   exact wpAny_pyNext_list_end (I.ok.hd hc) st p.isList (by simp; omega) fun h' eb=>⟨rfl,I.turned (t':=s.toks) (fun b o hb e=>eb b o hb e) f0 f1 f3 f4 f5⟩
 self:=fun _ _ _ _ _ st h=>wpAny_pyIter_listiter st h
theorem qQ {P:Program} {w:World} {K:PySem.W.Frag} {tg:Expr} (a it:Addr):Turn P w K tg (Itt K a) [it] it (fun i h=>h.IsTupleIter it a i) where
 mem:=by simp
 obj:=fun i h st b hb=>by
   have e:b=it:=by simpa using hb
   subst e
   obtain ⟨o,e,c,d⟩:=st
   exact ⟨o,e,fun v z=>by rw [d] at z; cases z⟩
 keep:=fun i h h' st k=>st.at fun o e=>k it (by simp) o e
 item:=by
   intro X hP hw hK hc i pins s σ H E I hf st hg
   subst hP hw hK
   obtain ⟨xs,x,hq,hx⟩:=hg
   obtain ⟨its,rv,p,hz⟩:=I.tuple hq
   obtain ⟨u,hu,ru⟩:=rv.get hx
   obtain ⟨f0,f1,f2,f3,f4,f5⟩:=hf it (by simp)
   refine wpAny_pyNext_tuple_item st (show s.heap.IsTuple a its.toArray from p) (x:=u) (by simpa using hu) fun h' st' sb=>?_
   have I1:Inv X pins σ H { s with heap:=h' }:=I.turned (t':=s.toks) (fun b o hb e=>(sb.2 b hb).trans e) f0 f1 f3 f4 f5
   obtain ⟨o,e,c,d⟩:=id st'
   exact ⟨u,rfl,oj (s:={ s with heap:=h' }) e c d (by decide) ⟨x,H,I1,ru,⟨rfl,fun ys hy=>by rw [I.tuple_inj hy hq]; exact hx⟩,st',fun b hb=>(hf b hb).1⟩⟩
 done:=by
   intro X hP hw hK hc i pins s σ H E I hf st hg
   subst hP hw hK
   obtain ⟨xs,hq,hx⟩:=hg
   obtain ⟨its,rv,p,hz⟩:=I.tuple hq
   obtain ⟨f0,f1,f2,f3,f4,f5⟩:=hf it (by simp)
   have hl:=rv.length
   exact wpAny_pyNext_tuple_end (I.ok.hd hc) st (show s.heap.IsTuple a its.toArray from p) (by simp; omega) fun h' eb=>⟨rfl,I.turned (t':=s.toks) (fun b o hb e=>eb b o hb e) f0 f1 f3 f4 f5⟩
 self:=fun _ _ _ _ _ st h=>wpAny_pyIter_tupleiter st h
theorem qO {P:Program} {w:World} {K:PySem.W.Frag} {tg:Expr} (it:Addr) (lo:Int) (n:Nat):Turn P w K tg (Itr lo n) [it] it (fun i h=>IsRangeIter h it (lo + (i:Nat) * 1) ((n:Int) - (i:Nat)) 1) where
 mem:=by simp
 obj:=fun i h st b hb=>by
   have e:b=it:=by simpa using hb
   subst e
   exact ⟨_,st,fun v z=>by
     have z':Data.fields _=Data.cell v:=z
     cases z'⟩
 keep:=fun i h h' st k=>k it (by simp) _ st
 item:=by
   intro X hP hw hK hc i pins s σ H E I hf st hg
   subst hP hw hK
   obtain ⟨f0,f1,f2,f3,f4,f5⟩:=hf it (by simp)
   have W:=Walks.range (prog:=X.prog) (w:=X.w) (I.ok.hd hc) it lo 1 n
   refine W.item i s _ _ hg st fun v h' tk hv st' kk=>?_
   obtain ⟨t,rfl⟩:=hv
   have I1:Inv X pins σ H { s with heap:=h',toks:=tk }:=I.turned (fun b o hb e=>kk b o (by simpa using hb) e) f0 f1 f3 f4 f5
   refine ⟨_,rfl,oj (s:={ s with heap:=h',toks:=tk }) (n:="range_iterator") st' rfl rfl (by decide) ⟨.int (lo + i),H,I1,⟨t,?_⟩,⟨rfl,rfl⟩,st',fun b hb=>(hf b hb).1⟩⟩
   rw [Int.mul_one]
 done:=by
   intro X hP hw hK hc i pins s σ H E I hf st hg
   subst hP hw hK
   obtain ⟨f0,f1,f2,f3,f4,f5⟩:=hf it (by simp)
   exact wpAny_pyNext_range_end (I.ok.hd hc) st (by have:n≤i:=hg; omega) fun h' eb=>⟨rfl,I.turned (t':=s.toks) (fun b o hb e=>eb b o hb e) f0 f1 f3 f4 f5⟩
 self:=fun _ _ _ _ _ st h=>wpAny_pyIter_rangeiter st h
end L2
namespace L2
open PySem PySem.Spec PyProof.Rows
section
variable {X:Cx} {tg:Expr}
def rn (K:PySem.W.Frag) (tl:TE):TI:=fun σ H R=>tl σ H fun x H1=>∃ a,x=.ref a∧(∃ xs,SqL K H1 a xs)∧R (Itl K a) H1
def wQ (K:PySem.W.Frag) (tl:TE):TI:=fun σ H R=>tl σ H fun x H1=>∃ a,x=.ref a∧(∃ xs,SqT K H1 a xs)∧R (Itt K a) H1
theorem eU {l:Expr} {tl:TE} (hl:PE X l tl):PI X tg l (rn X.K tl):=by
 intro pins s σ H R I h
 refine bj (hl pins s σ H _ I h) fun v s1 x H1 I1 r1 q1=>?_
 obtain ⟨a,e,⟨xs,hq⟩,q⟩:=q1
 subst e
 cases r1
 obtain ⟨its,rv,p,hz⟩:=I1.list hq
 refine wpAny_pyIter_list p.isList ?_
 refine ⟨s1.heap.objs.size,[s1.heap.objs.size],_,_,H1,rfl,I1.kept (t':=s1.toks) fun b o e=>Heap.get?_push_of_some _ e,sx a _,⟨_,Heap.get?_push_size _ rfl,rfl,rfl⟩,fun b hb=>?_,q⟩
 have e:b=s1.heap.objs.size:=by simpa using hb
 subst e
 exact I1.fpOk (Nat.le_refl _) (I1.hok.fresh (Nat.le_refl _))
theorem jp {l:Expr} {tl:TE} (hl:PE X l tl):PI X tg l (wQ X.K tl):=by
 intro pins s σ H R I h
 refine bj (hl pins s σ H _ I h) fun v s1 x H1 I1 r1 q1=>?_
 obtain ⟨a,e,⟨xs,hq⟩,q⟩:=q1
 subst e
 cases r1
 obtain ⟨its,rv,p,hz⟩:=I1.tuple hq
 refine wpAny_pyIter_tuple (show s1.heap.IsTuple a its.toArray from p) ?_
 refine ⟨s1.heap.objs.size,[s1.heap.objs.size],_,_,H1,rfl,I1.kept (t':=s1.toks) fun b o e=>Heap.get?_push_of_some _ e,qQ a _,⟨_,Heap.get?_push_size _ rfl,rfl,rfl⟩,fun b hb=>?_,q⟩
 have e:b=s1.heap.objs.size:=by simpa using hb
 subst e
 exact I1.fpOk (Nat.le_refl _) (I1.hok.fresh (Nat.le_refl _))
theorem oS {pins:List (Addr × Obj)} {σ:St} {H:Hp} {s:Shared} {R:It→Hp→Prop} {E:Value→Shared→Prop} {lo hi:Int} {t u v:Tok} {tk:Nat} (I:Inv X pins σ H s) (h1:-(2 ^ 62)≤lo) (h2:lo < 2 ^ 62) (h3:-(2 ^ 62)≤hi) (h4:hi < 2 ^ 62)
   (q:R (Itr lo (hi - lo).toNat) H):wpAny (model X.prog X.w) X.A (pyIter (.ref s.heap.objs.size)) (PIE X pins σ tg R) E { s with heap:=s.heap.push { cls:=.type "range",data:=.fields #[.int lo t,.int hi u,.int 1 v] },toks:=tk }:=by
 refine wpAny_pyIter_range (IsRange.new ..) (small_one h1 h2 h3 h4) ?_
 have I1:Inv X pins σ H { s with heap:=s.heap.push { cls:=.type "range",data:=.fields #[.int lo t,.int hi u,.int 1 v] },toks:=tk }:=I.kept fun b o e=>Heap.get?_push_of_some _ e
 refine ⟨(s.heap.push { cls:=.type "range",data:=.fields #[.int lo t,.int hi u,.int 1 v] }).objs.size,[(s.heap.push { cls:=.type "range",data:=.fields #[.int lo t,.int hi u,.int 1 v] }).objs.size],_,_,H,rfl,
   I1.kept (t':=tk) fun b o e=>Heap.get?_push_of_some _ e,qO _ lo (hi - lo).toNat,?_,fun b hb=>?_,q⟩
 · have e1:lo + ((0:Nat):Int) * 1=lo:=by simp
   have e2:(((hi - lo).toNat:Nat):Int) - ((0:Nat):Int)=Builtin.Range.rangeSize lo hi 1:=by rw [rangeSize_one]; split <;> omega
   show IsRangeIter _ _ (lo + ((0:Nat):Int) * 1) ((((hi - lo).toNat:Nat):Int) - ((0:Nat):Int)) 1
   rw [e1,e2]
   exact Heap.get?_push_size _ rfl
 · have e:b=(s.heap.push { cls:=.type "range",data:=.fields #[.int lo t,.int hi u,.int 1 v] }).objs.size:=by simpa using hb
   subst e
   exact I1.fpOk (Nat.le_refl _) (I1.hok.fresh (Nat.le_refl _))
def qX (ta:TA):TI:=fun σ H R=>ta σ H fun vs H1=>∃ j:Int,vs=[.int j]∧-(2 ^ 62)≤j∧j < 2 ^ 62∧R (Itr 0 j.toNat) H1
def rh (ta:TA):TI:=fun σ H R=>ta σ H fun vs H1=>∃ i j:Int,vs=[.int i,.int j]∧(-(2 ^ 62)≤i∧i < 2 ^ 62∧-(2 ^ 62)≤j∧j < 2 ^ 62)∧R (Itr i (j - i).toNat) H1
theorem gA {a:Expr} {ta:TA} {p pos:Pos} (hg:Gl X "range") (hm:X.mg "range"=none) (ha:PA X [a] ta) (hs:starEach [a] X.env=[(false,eval a X.env)]:=by rfl):PI X tg (.Call (.Name "range" p) [a] [] pos) (qX ta):=by
 intro pins s σ H R I h
 refine Call_ (fu I hg hm boot_range (PyProof.Rows.callWith_type1 (gJ (ha pos pins s σ H _ I h) fun us s1 vs H1 I1 r1 q1=>?_) hs rfl))
 obtain ⟨j,e,q1,q2,q⟩:=q1
 subst e
 cases r1 with
 | cons r rr =>
   cases rr
   obtain ⟨t,rfl⟩:=r
   exact call_range_1 (oS I1 (by omega) (by omega) q1 q2 (by simpa using q))
theorem iX {a b:Expr} {ta:TA} {p pos:Pos} (hg:Gl X "range") (hm:X.mg "range"=none) (ha:PA X [a,b] ta) (hs:starEach [a,b] X.env=[(false,eval a X.env),(false,eval b X.env)]:=by rfl) (hs2:starEach [b] X.env=[(false,eval b X.env)]:=by rfl) :
   PI X tg (.Call (.Name "range" p) [a,b] [] pos) (rh ta):=by
 intro pins s σ H R I h
 refine Call_ (fu I hg hm boot_range (PyProof.Rows.callWith_type1 (gJ (ha pos pins s σ H _ I h) fun us s1 vs H1 I1 r1 q1=>?_) (by rw [hs,hs2]) (by rw [hs2]; rfl)))
 obtain ⟨i,j,e,⟨q1,q2,q3,q4⟩,q⟩:=q1
 subst e
 cases r1 with
 | cons r rr =>
   cases rr with
   | cons r' rr =>
     cases rr
     obtain ⟨t,rfl⟩:=r
     obtain ⟨t',rfl⟩:=r'
     exact call_range_2 (oS I1 q1 q2 q3 q4 q)
def zM (wi:TI) (g:TG) (tb:TS):TS:=fun D σ H=>wi σ H fun J H1=>∃ W:Nat→Nat→St→Hp→Prop,(∃ m,W 0 m σ H1)∧∀ i m σ H,W i m σ H →
 (J.stop i H∧D.nx σ H)∨(J.go i H∧∃ N:St→Hp→Prop,(∀ σ' H',N σ' H'→∃ m',m' < m∧W (i + 1) m' σ' H')∧∀ x H',J.yld i H x H'→g x σ H' fun σ2 H2=>tb { D with nx:=N,ct:=N,bk:=D.nx } σ2 H2)
def gX (fp:List Addr) (h:Heap):List (Addr × Obj):=fp.filterMap fun b=>(h.get? b).map fun o=>(b,o)
theorem dI {fp:List Addr} {h:Heap} {b:Addr} {o:Obj} (hb:b∈fp) (e:h.get? b=some o):(b,o)∈gX fp h:=List.mem_filterMap.mpr ⟨b,hb,by rw [e]; rfl⟩
theorem tK {fp:List Addr} {h:Heap} {p:Addr × Obj} (hp:p∈gX fp h):p.1∈fp∧h.get? p.1=some p.2:=by
 obtain ⟨b,hb,e⟩:=List.mem_filterMap.mp hp
 cases q:h.get? b with
 | none=>rw [q] at e; cases e
 | some o =>
   rw [q] at e
   have e':(b,o)=p:=Option.some.inj e
   subst e'
   exact ⟨hb,q⟩
theorem Inv.pinned {pins:List (Addr × Obj)} {σ:St} {H:Hp} {s:Shared} {fp:List Addr} (I:Inv X pins σ H s) (hf:∀ b∈fp,dZ X pins H b) (ho:∀ b∈fp,∃ o,s.heap.get? b=some o∧∀ v,o.data≠.cell v):Inv X (pins ++ gX fp s.heap) σ H s :=
 I.pins_of fun p hp=>(List.mem_append.mp hp).elim (fun z=>I.pin p (List.mem_append_right _ z)) fun z=>by
   obtain ⟨hb,e⟩:=tK z
   obtain ⟨f0,f1,f2,_⟩:=hf p.1 hb
   obtain ⟨o,e',d⟩:=ho p.1 hb
   rw [e] at e'; cases e'
   exact ⟨e,f0,f1,f2,d⟩
theorem Inv.unpinned {pins pl:List (Addr × Obj)} {σ:St} {H:Hp} {s:Shared} (I:Inv X (pins ++ pl) σ H s):Inv X pins σ H s:=I.pins_of fun p hp=>I.pin p (List.mem_append_right _ (List.mem_append_left _ hp))
theorem cD {iter:Expr} {body:List Stmt} {wi:TI} {g:TG} {tb:TS} {pos:Pos} (hp:PassesOwn (model X.prog X.w) X.A X.env X.xe) (hc:X.calm=true) (hi:PI X tg iter wi) (hg:PG X tg g) (hb:PSs X body tb)
   (hs:∀ x,foldedSetIterable iter X.env x=pure x:=by intro _; rfl):PS X (.For tg iter body [] pos) (zM wi g tb):=by
 intro pins s σ H D I h
 refine wpAny_For (thn (hi pins s σ H _ I h) fun v s1 h1=>thn h1 fun itv s2 h2=>?_) hs
 obtain ⟨it,fp,tn,J,H2,e,I2,T,st2,f2,W,⟨m0,w0⟩,turn⟩:=h2
 subst e
 have stat:∀ {H':Hp},(∀ b∈fp,H' b=none)→∀ b∈fp,dZ X pins H' b:=fun hn b hb=>⟨hn b hb,(f2 b hb).2⟩
 refine codeAny_forLoop_any (fun n s'=>∃ i σ' H',Inv X pins σ' H' s'∧tn i s'.heap∧(∀ b∈fp,H' b=none)∧W i n σ' H') ?_ m0 ⟨0,σ,H2,I2,st2,fun b hb=>(f2 b hb).1,w0⟩
 rintro n s3 ⟨i,σ3,H3,I3,st3,fr3,w3⟩
 rcases turn i n σ3 H3 w3 with ⟨stop,qn⟩ | ⟨go,N,hN,step⟩
 · refine wpAny_passesOwn hp (thn (T.done X rfl rfl rfl hc i pins s3 σ3 H3 X.xe I3 (stat fr3) st3 stop) fun r s4 ⟨hr,I4⟩=>?_)
   subst hr
   exact wpAny_execs_nil ⟨σ3,H3,I4,qn⟩
 · refine wpAny_passesOwn hp (thn (T.item X rfl rfl rfl hc i pins s3 σ3 H3 X.xe I3 (stat fr3) st3 go) fun r s4 ⟨u,hr,h4⟩=>?_)
   subst hr
   refine wpAny_passesOwn hp (thn h4 fun _ s5 ⟨x,H5,I5,r5,y5,st5,fr5⟩=>?_)
   have I5':=I5.pinned (stat fr5) (T.obj _ _ st5)
   refine wpAny_passesOwn hp (thn (hg _ s5 σ3 H5 x u _ I5' r5 (step x H5 y5)) fun _ s6 ⟨σ6,H6,I6,q6⟩=>?_)
   refine wpAny_passesOwn hp (thn (hb _ s6 σ6 H6 _ I6 q6) fun f s7 q7=>?_)
   have again:∀ {σ7:St} {H7:Hp},Inv X (pins ++ gX fp s5.heap) σ7 H7 s7→N σ7 H7→∃ m,m < n∧∃ i σ' H',Inv X pins σ' H' s7∧tn i s7.heap∧(∀ b∈fp,H' b=none)∧W i m σ' H':=fun {σ7 H7} I7 n7=>by
     obtain ⟨m',hm,w7⟩:=hN σ7 H7 n7
     refine ⟨m',hm,i + 1,σ7,H7,I7.unpinned,T.keep _ _ _ st5 fun b hb o e=>(I7.pin (b,o) (List.mem_append_right _ (List.mem_append_right _ (dI hb e)))).1,fun b hb=>?_,w7⟩
     obtain ⟨o,e,d⟩:=T.obj _ _ st5 b hb
     exact (I7.pin (b,o) (List.mem_append_right _ (List.mem_append_right _ (dI hb e)))).2.1
   cases f with
   | next=>obtain ⟨σ7,H7,I7,n7⟩:=q7; exact again I7 n7
   | cont=>obtain ⟨σ7,H7,I7,n7⟩:=q7; exact again I7 n7
   | brk=>obtain ⟨σ7,H7,I7,q7⟩:=q7; exact ⟨σ7,H7,I7.unpinned,q7⟩
   | ret v=>obtain ⟨x7,σ7,H7,I7,r7,q7⟩:=q7; exact ⟨x7,σ7,H7,I7.unpinned,r7,q7⟩
end
theorem wZ {K:PySem.W.Frag} {a:Addr} {xs:List V} {g:TG} {tb:TS} {D:Ends} {σ:St} {H:Hp} (Pv:Nat→St→Hp→Prop) (h0:Pv 0 σ H) (hl:∀ i σ H,i≤xs.length→Pv i σ H→SqL K H a xs)
   (hs:∀ i x σ H,xs[i]?=some x→Pv i σ H→g x σ H fun σ2 H2=>tb { D with nx:=Pv (i + 1),ct:=Pv (i + 1),bk:=D.nx } σ2 H2) (hd:∀ σ H,Pv xs.length σ H→D.nx σ H) :
   ∃ W:Nat→Nat→St→Hp→Prop,(∃ m,W 0 m σ H)∧∀ i m σ H,W i m σ H →
     ((Itl K a).stop i H∧D.nx σ H)∨((Itl K a).go i H∧∃ N:St→Hp→Prop,(∀ σ' H',N σ' H'→∃ m',m' < m∧W (i + 1) m' σ' H')∧∀ x H',(Itl K a).yld i H x H'→g x σ H' fun σ2 H2=>tb { D with nx:=N,ct:=N,bk:=D.nx } σ2 H2):=by
 refine ⟨fun i m σ H=>m=xs.length - i∧i≤xs.length∧Pv i σ H,⟨xs.length,by simp,Nat.zero_le _,h0⟩,?_⟩
 rintro i m σ H ⟨rfl,hi,p⟩
 have q:=hl i σ H hi p
 by_cases hlt:i < xs.length
 · refine .inr ⟨⟨xs,xs[i],q,by simp [hlt]⟩,Pv (i + 1),fun σ' H' p'=>⟨xs.length - (i + 1),by omega,rfl,hlt,p'⟩,fun x H' y=>?_⟩
   obtain ⟨e,y⟩:=y
   subst e
   exact hs i x σ _ (y xs q) p
 · have e:i=xs.length:=by omega
   subst e
   exact .inl ⟨⟨xs,q,Nat.le_refl _⟩,hd σ H p⟩
theorem my {K:PySem.W.Frag} {a:Addr} {xs:List V} {g:TG} {tb:TS} {D:Ends} {σ:St} {H:Hp} (Pv:Nat→St→Hp→Prop) (h0:Pv 0 σ H) (hl:∀ i σ H,i≤xs.length→Pv i σ H→SqT K H a xs)
   (hs:∀ i x σ H,xs[i]?=some x→Pv i σ H→g x σ H fun σ2 H2=>tb { D with nx:=Pv (i + 1),ct:=Pv (i + 1),bk:=D.nx } σ2 H2) (hd:∀ σ H,Pv xs.length σ H→D.nx σ H) :
   ∃ W:Nat→Nat→St→Hp→Prop,(∃ m,W 0 m σ H)∧∀ i m σ H,W i m σ H →
     ((Itt K a).stop i H∧D.nx σ H)∨((Itt K a).go i H∧∃ N:St→Hp→Prop,(∀ σ' H',N σ' H'→∃ m',m' < m∧W (i + 1) m' σ' H')∧∀ x H',(Itt K a).yld i H x H'→g x σ H' fun σ2 H2=>tb { D with nx:=N,ct:=N,bk:=D.nx } σ2 H2):=by
 refine ⟨fun i m σ H=>m=xs.length - i∧i≤xs.length∧Pv i σ H,⟨xs.length,by simp,Nat.zero_le _,h0⟩,?_⟩
 rintro i m σ H ⟨rfl,hi,p⟩
 have q:=hl i σ H hi p
 by_cases hlt:i < xs.length
 · refine .inr ⟨⟨xs,xs[i],q,by simp [hlt]⟩,Pv (i + 1),fun σ' H' p'=>⟨xs.length - (i + 1),by omega,rfl,hlt,p'⟩,fun x H' y=>?_⟩
   obtain ⟨e,y⟩:=y
   subst e
   exact hs i x σ _ (y xs q) p
 · have e:i=xs.length:=by omega
   subst e
   exact .inl ⟨⟨xs,q,Nat.le_refl _⟩,hd σ H p⟩
theorem tW {lo:Int} {n:Nat} {g:TG} {tb:TS} {D:Ends} {σ:St} {H:Hp} (Pv:Nat→St→Hp→Prop) (h0:Pv 0 σ H)
   (hs:∀ i σ H,i < n→Pv i σ H→g (.int (lo + i)) σ H fun σ2 H2=>tb { D with nx:=Pv (i + 1),ct:=Pv (i + 1),bk:=D.nx } σ2 H2) (hd:∀ σ H,Pv n σ H→D.nx σ H) :
   ∃ W:Nat→Nat→St→Hp→Prop,(∃ m,W 0 m σ H)∧∀ i m σ H,W i m σ H →
     ((Itr lo n).stop i H∧D.nx σ H)∨((Itr lo n).go i H∧∃ N:St→Hp→Prop,(∀ σ' H',N σ' H'→∃ m',m' < m∧W (i + 1) m' σ' H')∧∀ x H',(Itr lo n).yld i H x H'→g x σ H' fun σ2 H2=>tb { D with nx:=N,ct:=N,bk:=D.nx } σ2 H2):=by
 refine ⟨fun i m σ H=>m=n - i∧i≤n∧Pv i σ H,⟨n,by simp,Nat.zero_le _,h0⟩,?_⟩
 rintro i m σ H ⟨rfl,hi,p⟩
 by_cases hlt:i < n
 · refine .inr ⟨hlt,Pv (i + 1),fun σ' H' p'=>⟨n - (i + 1),by omega,rfl,hlt,p'⟩,fun x H' y=>?_⟩
   obtain ⟨e,y⟩:=y
   subst e y
   exact hs i σ _ hlt p
 · have e:i=n:=by omega
   subst e
   exact .inl ⟨Nat.le_refl _,hd σ H p⟩
end L2
namespace L2
open PySem PySem.Spec PyProof.Rows
abbrev R2:=V→V→Hp→VK→Prop
def OpR (X:Cx) (f:Value→Value→Sem Value) (r:R2):Prop :=
 ∀ (pins:List (Addr × Obj)) (s:Shared) (σ:St) (H:Hp) (x y:V) (v u:Value) (Q:VK),Inv X pins σ H s→RelV x v→RelV y u→r x y H Q →
   wpAny (model X.prog X.w) X.A (f v u) (EP X pins σ Q) X.xe s
def UnR (X:Cx) (f:Value→Sem Value) (r:V→Hp→VK→Prop):Prop :=
 ∀ (pins:List (Addr × Obj)) (s:Shared) (σ:St) (H:Hp) (x:V) (v:Value) (Q:VK),Inv X pins σ H s→RelV x v→r x H Q →
   wpAny (model X.prog X.w) X.A (f v) (EP X pins σ Q) X.xe s
def dz (X:Cx) (f:Value) (r:List V→Hp→VK→Prop):Prop :=
 ∀ (pins:List (Addr × Obj)) (s:Shared) (σ:St) (H:Hp) (xs:List V) (us:List Value) (Q:VK),Inv X pins σ H s→Vals xs us→r xs H Q →
   wpAny (model X.prog X.w) X.A (call f us) (EP X pins σ Q) X.xe s
def Bi (X:Cx) (r:V→Hp→(Bool→Hp→Prop)→Prop):Prop :=
 ∀ (pins:List (Addr × Obj)) (s:Shared) (σ:St) (H:Hp) (x:V) (v:Value) (Q:Bool→Hp→Prop),Inv X pins σ H s→RelV x v→r x H Q →
   wpAny (model X.prog X.w) X.A (truthy v) (TP X pins σ Q) X.xe s
def tOp (r:R2) (ta tb:TE):TE:=fun σ H Q=>ta σ H fun x H1=>tb σ H1 fun y H2=>r x y H2 Q
def tUn (r:V→Hp→VK→Prop) (ta:TE):TE:=fun σ H Q=>ta σ H fun x H1=>r x H1 Q
def rI (C:Int→Int→Prop) (g:Int→Int→V):R2:=fun x y H Q=>∃ i j,x=.int i∧y=.int j∧C i j∧Q (g i j) H
def rI0 (g:Int→Int→V):R2:=fun x y H Q=>∃ i j,x=.int i∧y=.int j∧Q (g i j) H
def rU (g:Int→V):V→Hp→VK→Prop:=fun x H Q=>∃ i,x=.int i∧Q (g i) H
section
variable {X:Cx} {a b c:Expr} {ta tb tc:TE} {pos:Pos}
theorem we (ha:PE X a ta) (hb:PE X b tb) {pins:List (Addr × Obj)} {s:Shared} {σ:St} {H:Hp} {R:V→V→Hp→Prop} (I:Inv X pins σ H s)
   (h:ta σ H fun x H1=>tb σ H1 fun y H2=>R x y H2) {Q:Value→Shared→Prop} {f:Value→Value→Sem Value}
   (hf:∀ v u s2 x y H2,Inv X pins σ H2 s2→RelV x v→RelV y u→R x y H2→wpAny (model X.prog X.w) X.A (f v u) Q X.xe s2) :
   wpAny (model X.prog X.w) X.A (eval a X.env) (fun v s₁=>wpAny (model X.prog X.w) X.A (eval b X.env) (fun u s₂=>wpAny (model X.prog X.w) X.A (f v u) Q X.xe s₂) X.xe s₁) X.xe s:=by
 refine bj (ha pins s σ H _ I h) fun v s1 x H1 I1 r1 q1=>?_
 refine bj (hb pins s1 σ H1 _ I1 q1) fun u s2 y H2 I2 r2 q2=>?_
 exact hf v u s2 x y H2 I2 r1 r2 q2
theorem au {op:Operator} {r:R2} (ho:OpR X (binaryOp op) r) (ha:PE X a ta) (hb:PE X b tb):PE X (.BinOp a op b pos) (tOp r ta tb):=by
 intro pins s σ H Q I h
 exact wpAny_BinOp (we ha hb I h fun v u s2 x y H2 I2 rx ry q=>ho pins s2 σ H2 x y v u Q I2 rx ry q)
theorem fY {op:UnaryOp} {r:V→Hp→VK→Prop} (ho:UnR X (unaryOp op) r) (ha:PE X a ta):PE X (.UnaryOp op a pos) (tUn r ta):=by
 intro pins s σ H Q I h
 exact UnaryOp_ (bj (ha pins s σ H _ I h) fun v s1 x H1 I1 r1 q1=>ho pins s1 σ H1 x v Q I1 r1 q1)
theorem opI {f:Value→Value→Sem Value} {C:Int→Int→Prop} {g:Int→Int→Int}
   (rule:∀ (i j:Int) (t u:Tok) (s:Shared) (Q:Value→Shared→Prop) (E:Value→Shared→Prop),C i j→Q (.int (g i j) s.toks) { s with toks:=s.toks + 1 }→wpAny (model X.prog X.w) X.A (f (.int i t) (.int j u)) Q E s) :
   OpR X f (rI C fun i j=>.int (g i j)):=by
 intro pins s σ H x y v u Q I rx ry h
 obtain ⟨i,j,rfl,rfl,hc,q⟩:=h
 obtain ⟨t,rfl⟩:=rx
 obtain ⟨t',rfl⟩:=ry
 exact rule i j t t' s _ _ hc ⟨.int (g i j),H,I.tok _,⟨_,rfl⟩,q⟩
theorem zR {f:Value→Value→Sem Value} {g:Int→Int→Int}
   (rule:∀ (i j:Int) (t u:Tok) (s:Shared) (Q:Value→Shared→Prop) (E:Value→Shared→Prop),Q (.int (g i j) s.toks) { s with toks:=s.toks + 1 }→wpAny (model X.prog X.w) X.A (f (.int i t) (.int j u)) Q E s) :
   OpR X f (rI0 fun i j=>.int (g i j)):=by
 intro pins s σ H x y v u Q I rx ry h
 obtain ⟨i,j,rfl,rfl,q⟩:=h
 obtain ⟨t,rfl⟩:=rx
 obtain ⟨t',rfl⟩:=ry
 exact rule i j t t' s _ _ ⟨.int (g i j),H,I.tok _,⟨_,rfl⟩,q⟩
theorem r6 {f:Value→Value→Sem Value} {g:Int→Int→Bool}
   (rule:∀ (i j:Int) (t u:Tok) (s:Shared) (Q:Value→Shared→Prop) (E:Value→Shared→Prop),Q (.bool (g i j)) s→wpAny (model X.prog X.w) X.A (f (.int i t) (.int j u)) Q E s) :
   OpR X f (rI0 fun i j=>.bl (g i j)):=by
 intro pins s σ H x y v u Q I rx ry h
 obtain ⟨i,j,rfl,rfl,q⟩:=h
 obtain ⟨t,rfl⟩:=rx
 obtain ⟨t',rfl⟩:=ry
 exact rule i j t t' s _ _ ⟨.bl (g i j),H,I,rfl,q⟩
def Ab (i j:Int):Prop:=0 < j∧j < 1073741824
def Ao (i j:Int):Prop:=0≤j∧j≤1000000∧i.natAbs < 2 ^ 64
def CMul (i j:Int):Prop:=(-(2 ^ 64) < i∧i < 2 ^ 64)∨(-(2 ^ 64) < j∧j < 2 ^ 64)
theorem CMul.ok {i j:Int} (h:CMul i j):IntMulOk i j:=by
 rcases h with ⟨h1,h2⟩ | ⟨h1,h2⟩
 · exact .of_left (intBits_le_64 h1 h2)
 · exact .of_right (intBits_le_64 h1 h2)
theorem dC:OpR X (binaryOp .Add) (rI0 fun i j=>.int (i + j)):=zR fun _ _ _ _ _ _ _ q=>add_int q
theorem gO:OpR X (binaryOp .Sub) (rI0 fun i j=>.int (i - j)):=zR fun _ _ _ _ _ _ _ q=>sub_int q
theorem eI:OpR X (binaryOp .Mult) (rI CMul fun i j=>.int (i * j)):=opI fun _ _ _ _ _ _ _ hc q=>mul_int q hc.ok
theorem bH:OpR X (binaryOp .FloorDiv) (rI Ab fun i j=>.int (i / j)):=opI fun i j _ _ _ _ _ hc q=>by
 have h1:(0:Int) < j:=hc.1
 have h2:j < 1073741824:=hc.2
 exact floordiv_int (by omega) (by rw [Int.fdiv_eq_ediv_of_nonneg i (by omega)]; exact q) (.inl (PyProof.noPylong_small (by omega)))
theorem aQ:OpR X (binaryOp .Mod) (rI (fun _ j=>0 < j) fun i j=>.int (i % j)):=opI fun i j _ _ _ _ _ hc q=>by
 have h1:(0:Int) < j:=hc
 exact mod_int' (by omega) (by rw [Int.fmod_eq_emod_of_nonneg i (by omega)]; exact q)
theorem dG:OpR X (binaryOp .Pow) (rI Ao fun i j=>.int (i ^ j.toNat)):=opI fun _ _ _ _ _ _ _ hc q=>pow_int_small hc.1 hc.2.1 hc.2.2 q
theorem unI {f:Value→Sem Value} {g:Int→Int}
   (rule:∀ (i:Int) (t:Tok) (s:Shared) (Q:Value→Shared→Prop) (E:Value→Shared→Prop),Q (.int (g i) s.toks) { s with toks:=s.toks + 1 }→wpAny (model X.prog X.w) X.A (f (.int i t)) Q E s) :
   UnR X f (rU fun i=>.int (g i)):=by
 intro pins s σ H x v Q I rx h
 obtain ⟨i,rfl,q⟩:=h
 obtain ⟨t,rfl⟩:=rx
 exact rule i t s _ _ ⟨.int (g i),H,I.tok _,⟨_,rfl⟩,q⟩
theorem eE:UnR X (unaryOp .USub) (rU fun i=>.int (-i)):=unI fun _ _ _ _ _ q=>neg_int q
end
def iw:V→V→Bool
 | .non,.non=>true | .non,.int _=>true | .int _,.non=>true | .non,.bl _=>true | .bl _,.non=>true | .non,.str _=>true | .str _,.non=>true
 | .int _,.int _=>true | .bl _,.bl _=>true | .str _,.str _=>true | .byt _,.byt _=>true
 | .int _,.str _=>true | .str _,.int _=>true | .bl _,.str _=>true | .str _,.bl _=>true
 | _,_=>false
def rEq:R2:=fun x y H Q=>iw x y=true∧Q (.bl (decide (x=y))) H
def rNe:R2:=fun x y H Q=>iw x y=true∧Q (.bl (!decide (x=y))) H
theorem qD {i j:Int}:decide (V.int i=V.int j)=(i == j):=by
 rw [Bool.eq_iff_iff]
 simp
theorem sF {i j:Bool}:decide (V.bl i=V.bl j)=(i == j):=by
 rw [Bool.eq_iff_iff]
 simp
theorem qr {i j:Str}:decide (V.str i=V.str j)=(i == j):=by
 rw [Bool.eq_iff_iff]
 simp
theorem qA {i j:Array UInt8}:decide (V.byt i=V.byt j)=(i.toList == j.toList):=by
 rw [Bool.eq_iff_iff]
 cases i
 cases j
 simp
section
variable {X:Cx} {a b c:Expr} {ta tb tc:TE} {pos:Pos}
theorem bn {pins:List (Addr × Obj)} {σ:St} {H:Hp} {s:Shared} {Q:VK} {k k':Bool} (I:Inv X pins σ H s) (q:Q (.bl k) H) (e:k=k'):EP X pins σ Q (.bool k') s:=by
 subst e
 exact ⟨.bl k,H,I,rfl,q⟩
theorem bZ:OpR X (compareOp .Eq) rEq:=by
 intro pins s σ H x y v u Q I rx ry h
 obtain ⟨hs,q⟩:=h
 cases x with
 | non =>
   cases rx
   cases y with
   | non=>cases ry; exact PySem.EqNone.eq_none_none (bn I q (by simp))
   | bl j=>cases ry; exact PySem.EqNone.eq_none_bool (bn I q (by simp))
   | int j=>obtain ⟨t',rfl⟩:=ry; exact PySem.EqNone.eq_none_int (bn I q (by simp))
   | str j=>obtain ⟨t',rfl⟩:=ry; exact PySem.EqNone.eq_none_str (bn I q (by simp))
   | _=>exact absurd (show false=true from hs) Bool.false_ne_true
 | bl i =>
   cases rx
   cases y with
   | non=>cases ry; exact PySem.EqNone.eq_bool_none (bn I q (by simp))
   | bl j=>cases ry; exact eq_bool (bn I q sF)
   | str j=>obtain ⟨t',rfl⟩:=ry; exact PySem.EqMixed.eq_bool_str (bn I q (by simp))
   | _=>exact absurd (show false=true from hs) Bool.false_ne_true
 | int i =>
   obtain ⟨t,rfl⟩:=rx
   cases y with
   | non=>cases ry; exact PySem.EqNone.eq_int_none (bn I q (by simp))
   | int j=>obtain ⟨t',rfl⟩:=ry; exact eq_int (bn I q qD)
   | str j=>obtain ⟨t',rfl⟩:=ry; exact PySem.EqMixed.eq_int_str (bn I q (by simp))
   | _=>exact absurd (show false=true from hs) Bool.false_ne_true
 | str i =>
   obtain ⟨t,rfl⟩:=rx
   cases y with
   | non=>cases ry; exact PySem.EqNone.eq_str_none (bn I q (by simp))
   | bl j=>cases ry; exact PySem.EqMixed.eq_str_bool (bn I q (by simp))
   | int j=>obtain ⟨t',rfl⟩:=ry; exact PySem.EqMixed.eq_str_int (bn I q (by simp))
   | str j=>obtain ⟨t',rfl⟩:=ry; exact eq_str (bn I q qr)
   | _=>exact absurd (show false=true from hs) Bool.false_ne_true
 | byt i =>
   obtain ⟨t,rfl⟩:=rx
   cases y with
   | byt j=>obtain ⟨t',rfl⟩:=ry; exact PySem.W.eq_bytes (bn I q qA)
   | _=>exact absurd (show false=true from hs) Bool.false_ne_true
 | _=>cases y <;> exact absurd (show false=true from hs) Bool.false_ne_true
theorem n9:OpR X (compareOp .NotEq) rNe:=by
 intro pins s σ H x y v u Q I rx ry h
 obtain ⟨hs,q⟩:=h
 cases x with
 | non =>
   cases rx
   cases y with
   | non=>cases ry; exact PySem.EqNone.ne_none_none (bn I q (by simp))
   | bl j=>cases ry; exact PySem.EqNone.ne_none_bool (bn I q (by simp))
   | int j=>obtain ⟨t',rfl⟩:=ry; exact PySem.EqNone.ne_none_int (bn I q (by simp))
   | str j=>obtain ⟨t',rfl⟩:=ry; exact PySem.EqNone.ne_none_str (bn I q (by simp))
   | _=>exact absurd (show false=true from hs) Bool.false_ne_true
 | bl i =>
   cases rx
   cases y with
   | non=>cases ry; exact PySem.EqNone.ne_bool_none (bn I q (by simp))
   | bl j=>cases ry; exact ne_bool (bn I q (congrArg not sF))
   | str j=>obtain ⟨t',rfl⟩:=ry; exact PySem.EqMixed.ne_bool_str (bn I q (by simp))
   | _=>exact absurd (show false=true from hs) Bool.false_ne_true
 | int i =>
   obtain ⟨t,rfl⟩:=rx
   cases y with
   | non=>cases ry; exact PySem.EqNone.ne_int_none (bn I q (by simp))
   | int j=>obtain ⟨t',rfl⟩:=ry; exact ne_int (bn I q (congrArg not qD))
   | str j=>obtain ⟨t',rfl⟩:=ry; exact PySem.EqMixed.ne_int_str (bn I q (by simp))
   | _=>exact absurd (show false=true from hs) Bool.false_ne_true
 | str i =>
   obtain ⟨t,rfl⟩:=rx
   cases y with
   | non=>cases ry; exact PySem.EqNone.ne_str_none (bn I q (by simp))
   | bl j=>cases ry; exact PySem.EqMixed.ne_str_bool (bn I q (by simp))
   | int j=>obtain ⟨t',rfl⟩:=ry; exact PySem.EqMixed.ne_str_int (bn I q (by simp))
   | str j=>obtain ⟨t',rfl⟩:=ry; exact ne_str (bn I q (congrArg not qr))
   | _=>exact absurd (show false=true from hs) Bool.false_ne_true
 | byt i =>
   obtain ⟨t,rfl⟩:=rx
   cases y with
   | byt j=>obtain ⟨t',rfl⟩:=ry; exact PySem.W.ne_bytes (bn I q (congrArg not qA))
   | _=>exact absurd (show false=true from hs) Bool.false_ne_true
 | _=>cases y <;> exact absurd (show false=true from hs) Bool.false_ne_true
theorem on:OpR X (compareOp .Lt) (rI0 fun i j=>.bl (decide (i < j))):=r6 fun _ _ _ _ _ _ _ q=>lt_int q
theorem kY:OpR X (compareOp .LtE) (rI0 fun i j=>.bl (decide (i≤j))):=r6 fun _ _ _ _ _ _ _ q=>le_int q
theorem yo:OpR X (compareOp .Gt) (rI0 fun i j=>.bl (decide (j < i))):=r6 fun _ _ _ _ _ _ _ q=>gt_int q
theorem jL:OpR X (compareOp .GtE) (rI0 fun i j=>.bl (decide (j≤i))):=r6 fun _ _ _ _ _ _ _ q=>ge_int q
theorem aJ (b:Expr) {op:CmpOp} (h:op≠.In:=by decide) (h2:op≠.NotIn:=by decide):behindInMarks op b=false:=by
 have e1:(op == CmpOp.In)=false:=by cases op <;> first | rfl | exact absurd rfl h
 have e2:(op == CmpOp.NotIn)=false:=by cases op <;> first | rfl | exact absurd rfl h2
 cases b <;> simp [behindInMarks,e1,e2]
theorem d9 {op:CmpOp} {r:R2} (ho:OpR X (compareOp op) r) (ha:PE X a ta) (hb:PE X b tb) (hm:behindInMarks op b=false):PE X (.Compare a [op] [b] pos) (tOp r ta tb):=by
 intro pins s σ H Q I h
 exact wpAny_Compare1 (we ha hb I h fun v u s2 x y H2 I2 rx ry q=>ho pins s2 σ H2 x y v u Q I2 rx ry q) hm
def nY (t:TE):TT:=fun σ H Q=>t σ H fun x H'=>∃ k,x=.bl k∧Q k H'
theorem aK {op:CmpOp} {r:R2} (ho:OpR X (compareOp op) r) (ha:PE X a ta) (hb:PE X b tb) (hm:behindInMarks op b=false):PT X (.Compare a [op] [b] pos) (nY (tOp r ta tb)):=by
 intro pins s σ H Q I h
 refine wpAny_isTrue_Compare1 (bj (ha pins s σ H _ I h) fun v s1 x H1 I1 r1 q1=>bj (hb pins s1 σ H1 _ I1 q1) fun u s2 y H2 I2 r2 q2 =>
   bj (ho pins s2 σ H2 x y v u _ I2 r1 r2 q2) fun c s3 z H3 I3 r3 ⟨k,e,q3⟩=>?_) hm
 subst e
 cases r3
 exact wpAny_truthy_bool ⟨H3,I3,q3⟩
def lR (r r':R2) (ta tb tc:TE):TE:=fun σ H Q=>ta σ H fun x H1=>tb σ H1 fun y H2=>r x y H2 fun z H3=>∃ k,z=.bl k ∧
 (if k=true then tc σ H3 fun w' H4=>r' y w' H4 Q else Q (.bl false) H3)
theorem xT {op op':CmpOp} {r r':R2} (ho:OpR X (compareOp op) r) (ho':OpR X (compareOp op') r') (ha:PE X a ta) (hb:PE X b tb) (hc:PE X c tc)
   (hm:lastMarks [op,op'] [b,c]=false:=by with_unfolding_all rfl):PE X (.Compare a [op,op'] [b,c] pos) (lR r r' ta tb tc):=by
 intro pins s σ H Q I h
 refine Compare_chain (bj (ha pins s σ H _ I h) fun v s1 x H1 I1 r1 q1=>chain_link (bj (hb pins s1 σ H1 _ I1 q1) fun u s2 y H2 I2 r2 q2 =>
   bj (ho pins s2 σ H2 x y v u _ I2 r1 r2 q2) fun d s3 z H3 I3 r3 ⟨k,e,q3⟩=>?_)) hm
 subst e
 cases r3
 refine wpAny_truthy_bool ?_
 cases k with
 | false=>exact ite_ff ⟨.bl false,H3,I3,rfl,q3⟩
 | true=>exact ite_tt (chain_last (thn (hc pins s3 σ H3 _ I3 q3) fun w' s4 ⟨z',H4,I4,r4,q4⟩=>ho' pins s4 σ H4 y z' u w' Q I4 r2 r4 q4))
theorem pw {op op':CmpOp} {r r':R2} (ho:OpR X (compareOp op) r) (ho':OpR X (compareOp op') r') (ha:PE X a ta) (hb:PE X b tb) (hc:PE X c tc)
   (hm:lastMarks [op,op'] [b,c]=false:=by with_unfolding_all rfl):PT X (.Compare a [op,op'] [b,c] pos) (nY (lR r r' ta tb tc)):=by
 intro pins s σ H Q I h
 refine isTrue_chain (bj (ha pins s σ H _ I h) fun v s1 x H1 I1 r1 q1=>test_link (bj (hb pins s1 σ H1 _ I1 q1) fun u s2 y H2 I2 r2 q2 =>
   bj (ho pins s2 σ H2 x y v u _ I2 r1 r2 q2) fun d s3 z H3 I3 r3 ⟨k,e,q3⟩=>?_)) hm
 subst e
 cases r3
 refine wpAny_truthy_bool ?_
 cases k with
 | false =>
   obtain ⟨k',e',q'⟩:=q3
   cases e'
   exact ite_ff ⟨H3,I3,q'⟩
 | true =>
   refine ite_tt (test_last (thn (hc pins s3 σ H3 _ I3 q3) fun w' s4 ⟨z',H4,I4,r4,q4⟩=>thn (ho' pins s4 σ H4 y z' u w' _ I4 r2 r4 q4) fun d' s5 ⟨z2,H5,I5,r5,k2,e2,q5⟩=>?_))
   subst e2
   cases r5
   exact wpAny_truthy_bool ⟨H5,I5,q5⟩
def zQ (K:PySem.W.Frag) (x:V) (H:Hp) (k:Bool):Prop :=
 match x with
 | .non=>k=false
 | .bl b=>k=b
 | .int i=>k=(i != 0)
 | .str y=>y.length≤sizeLine∧k=((y.length:Int) != 0)
 | .byt y=>y.size≤sizeLine∧k=((y.size:Int) != 0)
 | .ref p=>(∃ xs,SqL K H p xs∧k=!xs.isEmpty)∨(∃ xs,SqT K H p xs∧k=!xs.isEmpty)∨∃ kvs,H p=some (.dK kvs)∧k=!kvs.isEmpty
 | _=>False
theorem rE {κ:Type} {kvs:List (κ × V)} {vs:List (κ × Value)} (r:KV kvs vs):(!vs.isEmpty)=!kvs.isEmpty:=by
 cases r <;> rfl
theorem k8 {xs:List V} {its:List Value} (r:Vals xs its):(!its.toArray.isEmpty)=!xs.isEmpty:=by
 cases r <;> simp
theorem gj:(sizeLine:Nat) < 2 ^ 63:=by rw [sizeLine_eq]; decide
theorem AE:Bi X (fun x H Q=>∃ k,zQ X.K x H k∧Q k H):=by
 intro pins s σ H x v Q I rx h
 obtain ⟨k,e,q⟩:=h
 have hl:=gj
 have hs:sizeLine=16777216:=sizeLine_eq
 cases x with
 | non =>
   cases rx
   have e':k=false:=e
   subst e'
   exact truthy_none ⟨H,I,q⟩
 | bl b =>
   cases rx
   have e':k=b:=e
   subst e'
   exact wpAny_truthy_bool ⟨H,I,q⟩
 | int i =>
   obtain ⟨t,rfl⟩:=rx
   have e':k=(i != 0):=e
   subst e'
   exact PySem.P.truthy_int ⟨H,I,q⟩
 | str y =>
   obtain ⟨t,rfl⟩:=rx
   obtain ⟨hy,e'⟩:y.length≤sizeLine∧k=((y.length:Int) != 0):=e
   subst e'
   exact PySem.P.truthy_str (by omega) ⟨H,I.tok _,q⟩
 | byt y =>
   obtain ⟨t,rfl⟩:=rx
   obtain ⟨hy,e'⟩:y.size≤sizeLine∧k=((y.size:Int) != 0):=e
   subst e'
   exact PySem.W.truthy_bytes (by omega) ⟨H,I.tok _,q⟩
 | ref p =>
   cases rx
   have e':(∃ xs,SqL X.K H p xs∧k=!xs.isEmpty)∨(∃ xs,SqT X.K H p xs∧k=!xs.isEmpty)∨∃ kvs,H p=some (.dK kvs)∧k=!kvs.isEmpty:=e
   rcases e' with ⟨xs,hx,e'⟩ | ⟨xs,hx,e'⟩ | ⟨kvs,hx,e'⟩
   · subst e'
     obtain ⟨its,r,pl,hz⟩:=I.list hx
     have hlen:=r.length
     exact wpAny_truthy_list pl.isList (by simp only [List.size_toArray]; omega) ⟨H,I.tok _,by rw [k8 r]; exact q⟩
   · subst e'
     obtain ⟨its,r,pl,hz⟩:=I.tuple hx
     have hlen:=r.length
     exact truthy_tuple pl (by simp only [List.size_toArray]; omega) ⟨H,I.tok _,by rw [k8 r]; exact q⟩
   · subst e'
     obtain ⟨hz,hS,vs,r,m⟩:kvs.length≤sizeLine∧(p == sysModules)=false∧∃ vs,KV kvs vs∧s.heap.DictOf (ck X.prog X.w) p vs:=I.hok p _ hx
     have hlen:kvs.length=vs.length:=Paired.length r
     exact wpAny_truthy_dict hS m (by omega) ⟨H,I.tok _,by rw [rE r]; exact q⟩
 | _=>exact (show False from e).elim
theorem kU (ha:PE X a ta) (he:∀ whole,isTrue a X.env whole=(do let v ← whole; standAt a.pos; holding [v] (truthy v))) :
   PT X a (fun σ H Q=>ta σ H fun x H'=>∃ k,zQ X.K x H' k∧Q k H'):=by
 intro pins s σ H Q I h
 exact isTrue_plain (bj (ha pins s σ H _ I h) fun v s1 x H1 I1 r1 q1=>AE pins s1 σ H1 x v Q I1 r1 q1) (he _)
theorem jM {x:V} {us:List Value} (r:Vals [x] us):∃ u,us=[u]∧RelV x u:=by
 cases r with
 | cons r1 r2=>cases r2; exact ⟨_,rfl,r1⟩
theorem om {x y:V} {us:List Value} (r:Vals [x,y] us):∃ u w',us=[u,w']∧RelV x u∧RelV y w':=by
 cases r with
 | cons r1 r2 =>
   cases r2 with
   | cons r3 r4=>cases r4; exact ⟨_,_,rfl,r1,r3⟩
theorem sC (hc:X.calm=true):dz X (.builtin "min") (fun xs H Q=>∃ i j,xs=[.int i,.int j]∧Q (.int (if j < i then j else i)) H):=by
 intro pins s σ H xs us Q I r h
 obtain ⟨i,j,rfl,q⟩:=h
 obtain ⟨u,w',rfl,⟨t,rfl⟩,⟨t',rfl⟩⟩:=om r
 refine min_two_ints (I.ok.hd hc) fun h' tk k=>⟨_,H,I.kept k,?_,q⟩
 by_cases hj:j < i
 · rw [if_pos hj,if_pos hj]; exact ⟨_,rfl⟩
 · rw [if_neg hj,if_neg hj]; exact ⟨_,rfl⟩
end
end L2
namespace L2
open PySem PySem.Spec PyProof.Rows
structure ObjM (h:Heap) (x dx C:Addr) (mA:Str→Option Value):Prop where
 obj:h.get? x=some (PySem.W.instObj C dx)
 ns:h.Ns1 dx mA
 ne:dx≠x
theorem tI {h:Heap} {dx:Addr} {mA:Str→Option Value} (n:h.Ns1 dx mA):∃ od,h.get? dx=some od∧∀ name,PySem.W.lookIn name od=some (mA name):=by
 obtain ⟨o,es,ep,ho,hd,hk,_,hm⟩:=n
 refine ⟨o,ho,fun name=>?_⟩
 have e:=hm name
 unfold nsFind findBy at e
 rw [← Array.find?_toList] at e
 unfold PySem.W.lookIn
 rw [hd]
 dsimp only
 split
 · rename_i y q
   rw [q] at e
   exact congrArg some e
 · rename_i q
   rw [q] at e
   have a:es.toList.any (·.refKey)=false:=by
     rw [List.any_eq_false]
     intro y hy
     obtain ⟨z,t,hkey⟩:=hk y (Array.mem_toList_iff.mp hy)
     simp [DictEntry.refKey,hkey]
   have a':¬ es.toList.any (·.refKey)=true:=by rw [a]; exact Bool.false_ne_true
   rw [if_neg a']
   exact congrArg some e
theorem ObjM.look {h:Heap} {x dx C:Addr} {mA:Str→Option Value} (I:ObjM h x dx C mA):∃ od,PySem.W.InstAt h x (PySem.W.instObj C dx) C (some od)∧∀ name,PySem.W.lookIn name od=some (mA name) :=
 let ⟨od,ho,hl⟩:=tI I.ns
 ⟨od,⟨I.obj,rfl,rfl,ho⟩,hl⟩
section
variable {prog:Program} {w:World} {A:Around} {E:Value→Shared→Prop} {s:Shared} {K:PySem.W.Frag} {x dx C f:Addr} {mA:Str→Option Value} {name:Str} {v:Value}
theorem zt {expr:Bool} {Q:Value→Shared→Prop} (X:K.In s.heap) (I:ObjM s.heap x dx C mA) (hg:PySem.W.plainGet K C name=true) (hh:PySem.W.hasDictIn K C=true)
   (ha:PySem.W.findIn K (.ref C) name=some none) (hv:mA name=some v) (hv':PySem.W.handedIn v=true) (h:Q v { s with toks:=s.toks + 1 }) :
   wpAny (model prog w) A (getAttr (.ref x) name expr) Q E s:=by
 obtain ⟨od,J,hl⟩:=I.look
 exact PySem.W.get_value X J (PySem.W.plainGet_of hg).1 (PySem.W.findObj_own hh ha rfl (by rw [hl,hv])) hv' h
theorem zg {ns:List Str} {Q:Unit→Shared→Prop} (X:K.In s.heap) (I:ObjM s.heap x dx C mA)
   (hs:PySem.W.findIn K (.ref C) "__setattr__"=some (some (.builtin "object.__setattr__"))) (hp:PySem.W.plainOver K C=true) (ht:PySem.W.takerIn K C name=some none) (hh:PySem.W.hasDictIn K C=true)
   (hw:PySem.Within mA ns) (hsz:ns.length≤sizeLine)
   (h:∀ h',ObjM h' x dx C (fun y=>if y=name then some v else mA y)→Heap.SameBut dx s.heap h'→Q () { s with heap:=h',toks:=s.toks + 2 }) :
   wpAny (model prog w) A (setAttr (.ref x) name v) Q E s:=by
 obtain ⟨od,J,hl⟩:=I.look
 refine PySem.W.set_plain X J hs (PySem.W.osa_open (s:={ s with toks:=s.toks + 1 }) (r:=none) X J hp ht fun b=>?_)
 obtain ⟨cd,hc,hd'⟩:=PySem.W.any_some hh
 have hx:s.heap.get? x=some ⟨.ref C,some dx,.plain,#[]⟩:=I.obj
 refine wpAny_bind (wpAny_pure (wpAny_bind (wpAny_bind (wpAny_loadPart hx (wpAny_bind (PySem.W.Looks.here (s:={ s with toks:=s.toks + 1 }) (PySem.W.looks_clsIn X hc) ?_))))))
 rw [hd']
 refine wpAny_pure (a:=some dx) (wpAny_bind (wpAny_pure (wpAny_bind ?_)))
 refine wpAny_nsSet1 (s:={ s with toks:=s.toks + 1 }) I.ns fun h' hn2 hs2=>?_
 obtain ⟨oD,esD,epD,hoD,hdD,hcD⟩:=hn2.count (PySem.Within.cons name v hw)
 refine wpAny_bind (wpAny_lookBehind hoD (by rw [hdD]; exact pastItsLine_dict (Nat.le_trans hcD (by rw [List.length_cons]; omega))) ?_)
 exact wpAny_pure (h _ ⟨(hs2.2 _ (Ne.symm I.ne)).trans I.obj,hn2,I.ne⟩ hs2)
theorem wP {R:Result→Shared→Prop} {vs:List Value} {kw:List (Str × Value)} (X:K.In s.heap) (hm:PySem.W.makesIn K C=true)
   (hi:PySem.W.findIn K (.ref C) "__init__"=some (some (.ref f))) (hf:PySem.W.typeIn K (.ref f)=some (.type "function"))
   (h:codeAny (model prog w) (A.under (.builtin "type.__call__" ⟨.ref C :: vs,kw⟩)) (.call (.ref f) ⟨.ref (s.heap.objs.size + 1) :: vs,kw⟩) (PySem.W.InitBack (s.heap.objs.size + 1) R)
     { s with heap:=(s.heap.push PySem.W.emptyDict).push (PySem.W.instObj C s.heap.objs.size) }) :
   codeAny (model prog w) A (.call (.ref C) ⟨vs,kw⟩) R s:=by
 obtain ⟨hh,g,d,t,os⟩:=s
 exact PySem.W.make_core (PySem.W.makes_of X hm) (PySem.W.looks_findIn X hi) (fun self=>PySem.W.bind_fn X self hf) (.inl rfl) h
end
def dk (f:Str) (v:V):List (Str × V)→List (Str × V)
 | []=>[(f,v)]
 | (g,x) :: r=>if g=f then (g,v) :: r else (g,x) :: dk f v r
theorem dX (f g:Str) (v:V):∀ fs:List (Str × V),(dk f v fs).lookup g=if g=f then some v else fs.lookup g
 | []=>by
   show List.lookup g [(f,v)]=_
   by_cases h:g=f
   · have hb:(g == f)=true:=beq_iff_eq.mpr h
     simp only [List.lookup,hb,if_pos h]
   · have hb:(g == f)=false:=beq_eq_false_iff_ne.mpr h
     simp only [List.lookup,hb,if_neg h]
 | (k,x) :: r=>by
   have ih:=dX f g v r
   rw [show dk f v ((k,x) :: r)=(if k=f then (k,v) :: r else (k,x) :: dk f v r) from rfl]
   by_cases hk:k=f
   · rw [if_pos hk]
     by_cases h:g=k
     · have hb:(g == k)=true:=beq_iff_eq.mpr h
       simp only [List.lookup,hb,if_pos (h.trans hk)]
     · have hb:(g == k)=false:=beq_eq_false_iff_ne.mpr h
       simp only [List.lookup,hb,if_neg (fun e:g=f=>h (e.trans hk.symm))]
   · rw [if_neg hk]
     by_cases h:g=k
     · have hb:(g == k)=true:=beq_iff_eq.mpr h
       simp only [List.lookup,hb,if_neg (fun e:g=f=>hk (h.symm.trans e))]
     · have hb:(g == k)=false:=beq_eq_false_iff_ne.mpr h
       simp only [List.lookup,hb]
       exact ih
theorem jq (f:Str) (v:V):∀ fs:List (Str × V),f∈(dk f v fs).map (·.1)∧∀ g,g∈fs.map (·.1)→g∈(dk f v fs).map (·.1)
 | []=>⟨by simp [dk],fun g h=>by simp at h⟩
 | (k,x) :: r=>by
   obtain ⟨i1,i2⟩:=jq f v r
   rw [show dk f v ((k,x) :: r)=(if k=f then (k,v) :: r else (k,x) :: dk f v r) from rfl]
   by_cases hk:k=f
   · rw [if_pos hk]
     subst hk
     exact ⟨by simp,fun g h=>by simpa using h⟩
   · rw [if_neg hk]
     refine ⟨?_,fun g h=>?_⟩
     · rw [List.map_cons]
       exact List.mem_cons_of_mem _ i1
     · rw [List.map_cons] at h ⊢
       rcases List.mem_cons.mp h with e | e
       · exact List.mem_cons.mpr (.inl e)
       · exact List.mem_cons_of_mem _ (i2 g e)
theorem j5 (f:Str) (v:V):∀ fs:List (Str × V),(dk f v fs).length≤fs.length + 1
 | []=>by simp [dk]
 | (k,x) :: r=>by
   have ih:=j5 f v r
   rw [show dk f v ((k,x) :: r)=(if k=f then (k,v) :: r else (k,x) :: dk f v r) from rfl]
   by_cases hk:k=f
   · rw [if_pos hk,List.length_cons,List.length_cons]; omega
   · rw [if_neg hk,List.length_cons,List.length_cons]; omega
theorem RelO.some_of {v:V} {o:Option Value} (r:RelO (some v) o):∃ u,o=some u∧RelV v u:=by
 cases o with
 | none=>exact (show False from r).elim
 | some u=>exact ⟨u,rfl,r⟩
theorem uj {v:V} {u:Value} (r:RelV v u):PySem.W.handedIn u=true:=by
 cases v with
 | non=>cases (show u=Value.none from r); rfl
 | bl b=>cases (show u=Value.bool b from r); rfl
 | int i=>obtain ⟨t,e⟩:=(show ∃ t,u=Value.int i t from r); cases e; rfl
 | str x=>obtain ⟨t,e⟩:=(show ∃ t,u=Value.str x t from r); cases e; rfl
 | byt b=>obtain ⟨t,e⟩:=(show ∃ t,u=Value.bytes b t from r); cases e; rfl
 | flt b=>obtain ⟨t,e⟩:=(show ∃ t,u=Value.float b t from r); cases e; rfl
 | ref a=>cases (show u=Value.ref a from r); rfl
 | ty n=>cases (show u=Value.type n from r); rfl
section
variable {P:Program} {w:World} {H H':Hp} {h h':Heap} {a C dx:Addr} {fs fs':List (Str × V)}
theorem qp (hok:HOk P w H h) (e:H a=some (.ins C dx fs)):∃ mA,ObjM h a dx C mA∧(∀ f,RelO (fs.lookup f) (mA f))∧PySem.Within mA (fs.map (·.1))∧fs.length≤1000∧H dx=some (.own a):=by
 obtain ⟨d,z,ne,ob,mA,n,r,q⟩:=(show ObjOk P w H h a (.ins C dx fs) from hok a _ e)
 exact ⟨mA,⟨ob,n,ne⟩,r,q,z,d⟩
end
structure Cls (K:PySem.W.Frag) (C:Addr):Prop where
 pg:PySem.W.plainGet K C Str.empty=true
 hd:PySem.W.hasDictIn K C=true
 po:PySem.W.plainOver K C=true
 sa:PySem.W.findIn K (.ref C) "__setattr__"=some (some (.builtin "object.__setattr__"))
theorem Cls.get {K:PySem.W.Frag} {C:Addr} (c:Cls K C) (f:Str):PySem.W.plainGet K C f=true:=c.pg
def NoAttr (K:PySem.W.Frag) (C:Addr) (f:Str):Prop:=PySem.W.findIn K (.ref C) f=some none
theorem NoAttr.taker {K:PySem.W.Frag} {C:Addr} {f:Str} (n:NoAttr K C f):PySem.W.takerIn K C f=some none:=by
 unfold PySem.W.takerIn
 rw [show PySem.W.findIn K (.ref C) f=some none from n]
 rfl
section
variable {X:Cx} {pins:List (Addr × Obj)} {σ:St} {H:Hp} {s:Shared} {a C dx:Addr} {fs:List (Str × V)} {f:Str} {v:V} {A:Around} {E:Value→Shared→Prop}
theorem rJ {b:Bool} {Q:Value→Shared→Prop} (I:Inv X pins σ H s) (e:H a=some (.ins C dx fs)) (c:Cls X.K C) (n:NoAttr X.K C f) (l:fs.lookup f=some v)
   (h:∀ u s',Inv X pins σ H s'→RelV v u→Q u s'):wpAny (model X.prog X.w) A (getAttr (.ref a) f b) Q E s:=by
 obtain ⟨mA,O,r,_,_,_⟩:=qp I.hok e
 obtain ⟨u,hu,ru⟩:=RelO.some_of (v:=v) (o:=mA f) (by rw [← l]; exact r f)
 exact zt I.kIn O (c.get f) c.hd n hu (uj ru) (h u _ (I.tok _) ru)
theorem rZ {y:V} {u:Value} {Q:Unit→Shared→Prop} (I:Inv X pins σ H s) (e:H a=some (.ins C dx fs)) (c:Cls X.K C) (n:NoAttr X.K C f) (hl:fs.length < 1000) (ry:RelV y u)
   (h:∀ s',Inv X pins σ (upd H a (.ins C dx (dk f y fs))) s'→Q () s'):wpAny (model X.prog X.w) A (setAttr (.ref a) f u) Q E s:=by
 obtain ⟨mA,O,r,wi,_,ho⟩:=qp I.hok e
 have hz:(fs.map (·.1)).length≤sizeLine:=by rw [List.length_map,sizeLine_eq]; omega
 refine zg I.kIn O c.sa c.po n.taker c.hd wi hz fun h' O' sb=>h _ ?_
 have hd:∃ o,h'.get? dx=some o:=let ⟨o,_,_,e',_⟩:=O'.ns; ⟨o,e'⟩
 refine I.write (x:=a) (e:=dx) (by rw [e]; exact True.intro) (.inr ho) (fun b q hb z=>(sb.2 b hb).trans z) hd ?_
 refine ⟨by rw [ap O.ne]; exact ho,?_,O.ne,O'.obj,_,O'.ns,fun g=>?_,fun g hg=>?_⟩
 · have:=j5 f y fs; omega
 · show RelO ((dk f y fs).lookup g) (if g=f then some u else mA g)
   rw [dX]
   by_cases q:g=f
   · rw [if_pos q,if_pos q]; exact ry
   · rw [if_neg q,if_neg q]; exact r g
 · by_cases q:g=f
   · rw [q]; exact (jq f y fs).1
   · refine (jq f y fs).2 g (wi g fun z=>hg ?_)
     show (if g=f then some u else mA g)=none
     rw [if_neg q]; exact z
theorem Inv.made (I:Inv X pins σ H s):Inv X pins σ (upd (upd H s.heap.objs.size (.own (s.heap.objs.size + 1))) (s.heap.objs.size + 1) (.ins C s.heap.objs.size []))
   { s with heap:=(s.heap.push PySem.W.emptyDict).push (PySem.W.instObj C s.heap.objs.size) }:=by
 have e1:(s.heap.push PySem.W.emptyDict).get? s.heap.objs.size=some PySem.W.emptyDict:=Heap.get?_push_size s.heap rfl
 have e2:((s.heap.push PySem.W.emptyDict).push (PySem.W.instObj C s.heap.objs.size)).get? (s.heap.objs.size + 1)=some (PySem.W.instObj C s.heap.objs.size):=by
   have:=Heap.get?_push_size (s.heap.push PySem.W.emptyDict) (o:=PySem.W.instObj C s.heap.objs.size) rfl
   rwa [Heap.size_push] at this
 have e3:(s.heap.push PySem.W.emptyDict).Ns s.heap.objs.size (fun _=>none):=⟨PySem.W.emptyDict,#[],_,e1,rfl,(fun e he=>absurd he (by simp)),fun _=>rfl⟩
 have I1:=I.laid (a:=s.heap.objs.size) (o:=.own (s.heap.objs.size + 1)) (h':=s.heap.push PySem.W.emptyDict) (t':=s.toks) (fun b u q=>Heap.get?_push_of_some _ q) (Nat.le_refl _) ⟨_,e1⟩
 refine I1.laid (a:=s.heap.objs.size + 1) (o:=.ins C s.heap.objs.size []) (t':=s.toks) (fun b u q=>Heap.get?_push_of_some _ q) (Nat.le_of_eq (Heap.size_push _ _)) ?_
 have ne:s.heap.objs.size≠s.heap.objs.size + 1:=Nat.ne_of_lt (Nat.lt_succ_self _)
 refine ⟨by rw [ap ne,ah],Nat.zero_le _,ne,e2,fun _=>none,(Heap.Ns1.of_empty e3).at fun o q=>Heap.get?_push_of_some _ q,fun _=>True.intro,fun y hy=>absurd rfl hy⟩
theorem ze {prog:Program} {w:World} {env:Env} {e:Expr} {f:Str} {pos:Pos} {s:Shared} {Q:Value→Shared→Prop} (hb:attributeBase e f env (eval e env)=eval e env)
   (h:wpAny (model prog w) A (eval e env) (fun o s₁=>wpAny (model prog w) A (getAttr o f true) Q E s₁) E s):wpAny (model prog w) A (eval (.Attribute e f pos) env) Q E s :=
 Attribute_any_ h (by rw [arm_eval_Attribute,hb])
end
def uC (K:PySem.W.Frag) (ta:TE) (f:Str):TE:=fun σ H Q=>ta σ H fun x H1=>∃ a C dx fs v,x=.ref a∧H1 a=some (.ins C dx fs)∧Cls K C∧NoAttr K C f∧fs.lookup f=some v∧Q v H1
def yb (K:PySem.W.Frag) (ta tv:TE) (f:Str):TS:=fun D σ H=>tv σ H fun y H1=>ta σ H1 fun x H2=>∃ a C dx fs,x=.ref a∧H2 a=some (.ins C dx fs)∧Cls K C∧NoAttr K C f∧fs.length < 1000 ∧
 D.nx σ (upd H2 a (.ins C dx (dk f y fs)))
section
variable {X:Cx} {o e value:Expr} {f:Str} {pos pos' tpos:Pos} {ta tv:TE}
theorem fG (he:PE X e ta) (hb:attributeBase e f X.env (eval e X.env)=eval e X.env):PE X (.Attribute e f pos) (uC X.K ta f):=by
 intro pins s σ H Q I h
 refine ze hb (bj (he pins s σ H _ I h) fun u s1 x H1 I1 rx ⟨a,C,dx,fs,v,ex,ea,c,n,l,q⟩=>?_)
 subst ex
 obtain rfl:u=Value.ref a:=rx
 exact rJ I1 ea c n l fun u' s2 I2 ru=>⟨v,H1,I2,ru,q⟩
theorem su (ha:PE X o ta) (hv:PE X value tv) (hs:swapsWith value (some (.Attribute o f pos')) pos.line X.env=pure false):PS X (.Assign [.Attribute o f pos'] value pos) (yb X.K ta tv f):=by
 intro pins s σ H D I h
 refine plainObj_wpAny_Assign_Attribute (bj (hv pins s σ H _ I h) fun u s1 y H1 I1 ry q=>bj (ha pins s1 σ H1 _ I1 q) fun ov s2 x H2 I2 rx ⟨a,C,dx,fs,ex,ea,c,n,l,q2⟩=>?_) hs
 subst ex
 obtain rfl:ov=Value.ref a:=rx
 exact rZ I2 ea c n l ry fun s3 I3=>⟨σ,_,I3,q2⟩
end
section
variable {X:Cx} {pins:List (Addr × Obj)} {σ:St} {H:Hp} {s:Shared} {A:Around} {E:Value→Shared→Prop} {Q:Value→Shared→Prop} {c:Value} {b:Bool}
end
end L2
namespace L2
open PySem PySem.Spec PyProof.Rows
structure Room (k:Nat) (A:Around):Prop where
 hd:A.handled=none
 dp:A.depth + 3 * k + 5 < recursionLimit
 un:A.units + 16 * k + 200 < cLine
theorem Room.mono {j k:Nat} {A:Around} (r:Room k A) (h:j≤k):Room j A:=⟨r.hd,by have:=r.dp; omega,by have:=r.un; omega⟩
theorem Room.deeper {k:Nat} {A:Around} (r:Room (k + 1) A) (env:Env):Room k (A.deeper env) :=
 ⟨r.hd,by have:=r.dp; show A.depth + 1 + 3 * k + 5 < _; omega,by have:=r.un; show A.units + 3 + 16 * k + 200 < _; omega⟩
theorem rA {A:Around} {C:Addr} {us:List Value} {kw:List (Str × Value)}:(A.under (.builtin "type.__call__" ⟨.ref C :: us,kw⟩)).depth=A.depth + 1:=by
 first | rfl | simp [Around.under,Code.weight,Code.isCreation,Code.isGuard,Code.isCaller,Code.frames,Code.isFrame,guardIds]
theorem qS {A:Around} {C:Addr} {us:List Value} {kw:List (Str × Value)}:(A.under (.builtin "type.__call__" ⟨.ref C :: us,kw⟩)).units=A.units + 1:=by
 first | rfl | simp [Around.under,Code.cUnits,Code.frames,Code.isFrame]
theorem Room.make {k:Nat} {A:Around} (r:Room (k + 1) A) (C:Addr) (us:List Value) (kw:List (Str × Value)):Room k (A.under (.builtin "type.__call__" ⟨.ref C :: us,kw⟩)) :=
 ⟨r.hd,by have:=r.dp; rw [rA]; omega,by have:=r.un; rw [qS]; omega⟩
theorem Room.depth {k:Nat} {A:Around} (r:Room k A):A.depth < recursionLimit:=by have:=r.dp; omega
theorem Room.units {k:Nat} {A:Around} (r:Room k A):A.units + 64 < cLine:=by have:=r.un; omega
def tNil:TA:=fun _ H Q=>Q [] H
def q0 (ta:TE) (tr:TA):TA:=fun σ H Q=>ta σ H fun x H1=>tr σ H1 fun xs H2=>Q (x :: xs) H2
section
variable {X:Cx} {e:Expr} {es:List Expr} {te:TE} {t:TA} {pos:Pos}
theorem aj:PA X [] tNil:=fun _ _ _ _ H Q I h=>Calls.spliced_nil ⟨[],H,I,.nil,h⟩
theorem ag (ha:PE X e te) (hr:PA X es t) (hs:starEach (e :: es) X.env=(false,eval e X.env) :: starEach es X.env:=by rfl):PA X (e :: es) (q0 te t):=by
 intro pos pins s σ H Q I h
 rw [hs]
 show wpAny _ _ (spliced ((false,eval e X.env) :: backTo pos (starEach es X.env))) _ _ s
 refine Calls.spliced_cons (bj (ha pins s σ H _ I h) fun u s1 x H1 I1 r1 q1=>?_)
 exact gJ (hr pos pins s1 σ H1 _ I1 q1) fun us s2 xs H2 I2 r2 q2=>⟨x :: xs,H2,I2,.cons r1 r2,q2⟩
def yg (t:TA):TE:=fun σ H Q=>t σ H fun xs H1=>xs.length≤sizeLine∧∀ p,H1 p=none→Q (.ref p) (upd H1 p (.tup xs))
def vd (t:TA):TE:=fun σ H Q=>t σ H fun xs H1=>xs.length≤sizeLine∧∀ p,H1 p=none→Q (.ref p) (upd H1 p (.lst xs))
theorem cX {x1} (h:PA X es t):PE X (.Tuple es x1 pos) (yg t):=by
 intro pins s σ H Q I hq
 refine wpAny_Tuple_spliced (gJ (h pos pins s σ H _ I hq) fun us s1 xs H1 I1 r ⟨z,q⟩=>⟨by rw [← r.length]; exact z,?_⟩)
 have hf:H1 s1.heap.objs.size=none:=I1.hok.fresh (Nat.le_refl _)
 refine ⟨.ref s1.heap.objs.size,upd H1 s1.heap.objs.size (.tup xs),I1.laid (t':=s1.toks) (fun b u e=>Heap.get?_push_of_some _ e) (Nat.le_refl _) ?_,rfl,q _ hf⟩
 exact ⟨z,us,r,⟨_,Heap.get?_push_size _ rfl,rfl,_,rfl⟩⟩
theorem bB (h:PA X es t):PE X (.List es pos) (vd t):=by
 intro pins s σ H Q I hq
 refine wpAny_List_spliced (gJ (h pos pins s σ H _ I hq) fun us s1 xs H1 I1 r ⟨z,q⟩=>⟨by rw [← r.length]; exact z,?_⟩)
 have hf:H1 s1.heap.objs.size=none:=I1.hok.fresh (Nat.le_refl _)
 refine ⟨.ref s1.heap.objs.size,upd H1 s1.heap.objs.size (.lst xs),I1.laid (t':=s1.toks) (fun b u e=>Heap.get?_push_of_some _ e) (Nat.le_refl _) ?_,rfl,q _ hf⟩
 exact ⟨z,us,0,r,Heap.get?_push_size _ rfl⟩
end
abbrev Sp:=List V→Hp→VK→XK→Prop
abbrev CXT:=List Env→Hp→Shared→XK→Value→Shared→Prop
structure Env0 (P:Program) (w:World) (K:PySem.W.Frag) (mg:Str→Option Value) (base:Heap) (A:Around) (outer:List Env) (s:Shared) (H:Hp):Prop where
 frames:A.frames=some outer
 mod:Mod K mg base
 bs:∀ b o,base.get? b=some o→s.heap.get? b=some o∧H b=none
 bsz:base.objs.size≤s.heap.objs.size
 funs:s.heap.FunFrames base outer
 frf:∀ b∈frs outer,H b=none
 hok:HOk P w H s.heap
 bare:AllBare s.gens
def CE (outer:List Env) (P:Program) (w:World) (H:Hp) (s:Shared) (Q:VK) (u:Value) (s':Shared):Prop :=
 ∃ v H',s'.os=s.os∧AllBare s'.gens∧Un (frs outer) [] H H' s.heap s'.heap∧HOk P w H' s'.heap∧RelV v u∧Q v H'
def CR (CX:CXT) (outer:List Env) (P:Program) (w:World) (H:Hp) (s:Shared) (Q:VK) (E:XK) (r:Result) (s':Shared):Prop :=
 match r with
 | .ok (.ret u)=>CE outer P w H s Q u s'
 | .ok _=>False
 | .error e=>CX outer H s E e s'
structure FnOk (P:Program) (w:World) (K:PySem.W.Frag) (mg:Str→Option Value) (base:Heap) (CX:CXT) (k:Nat) (f:Addr) (fd:FuncData) (ps:List Str) (sp:Sp):Prop where
 len:∀ vs H Q E,sp vs H Q E→vs.length=ps.length
 run:∀ (A:Around) (outer:List Env) (s:Shared) (H:Hp) (args:Args) (us:List Value) (vs:List V) (Q:VK) (E:XK),Room k A→Env0 P w K mg base A outer s H→BindsTo s fd args (ps.zip us)→Vals vs us→sp vs H Q E →
   codeAny (model P w) A (.call (.ref f) args) (CR CX outer P w H s Q E) s
theorem Env0.make {P:Program} {w:World} {K:PySem.W.Frag} {mg:Str→Option Value} {base:Heap} {A:Around} {outer:List Env} {s:Shared} {H:Hp} (e:Env0 P w K mg base A outer s H) (C:Addr) (us:List Value) (kw:List (Str × Value)) :
   Env0 P w K mg base (A.under (.builtin "type.__call__" ⟨.ref C :: us,kw⟩)) outer s H:=⟨by first | exact e.frames | (simpa [Around.under,Code.envs,Code.isFrame,pushEnvs] using e.frames),e.mod,e.bs,e.bsz,e.funs,e.frf,e.hok,e.bare⟩
section
variable {X:Cx} {pins:List (Addr × Obj)} {σ:St} {H:Hp} {s s':Shared}
theorem Inv.env0 (I:Inv X pins σ H s):Env0 X.prog X.w X.K X.mg X.base X.A X.stack s H :=
 ⟨I.ok.frames,I.ok.mod,I.bs,Nat.le_trans I.ok.bsz I.sz,I.stack,I.stkFree,I.hok,I.bare⟩
theorem Inv.after {Q:VK} {u:Value} (I:Inv X pins σ H s) (h:CE X.stack X.prog X.w H s Q u s'):EP X pins σ Q u s':=by
 obtain ⟨v,H',os,bare,un,hok,r,q⟩:=h
 obtain ⟨hh,g,d,t,os'⟩:=s'
 obtain rfl:os'=s.os:=os
 exact ⟨v,H',I.call (h':=hh) (g':=g) (d':=d) (t':=t) (ch:=[]) un hok bare (fun b z=>absurd z (by simp)),r,q⟩
end
def nW (sp:Sp) (dvs:List V) (E:XK) (t:TA):TE:=fun σ H Q=>t σ H fun vs H1=>sp (vs ++ dvs) H1 Q E
def rQ (C:Addr) (sp:Sp) (dvs:List V) (E:XK) (t:TA):TE:=fun σ H Q=>t σ H fun vs H1=>∀ x dx,H1 x=none→H1 dx=none→dx≠x →
 sp (.ref x :: (vs ++ dvs)) (upd (upd H1 dx (.own x)) x (.ins C dx [])) (fun v H2=>v=.non∧Q (.ref x) H2) E
def Binds (K:PySem.W.Frag) (fd:FuncData) (ps:List Str) (ds:List Value):Prop :=
 ∀ (s:Shared) (us:List Value),K.In s.heap→(us ++ ds).length=ps.length→BindsTo s fd ⟨us,[]⟩ (ps.zip (us ++ ds))
theorem Binds.all {K:PySem.W.Frag} {fd:FuncData} {ps:List Str} (h:∀ us:List Value,us.length=ps.length→bindArgs fd ⟨us,[]⟩=pure (ps.zip us)):Binds K fd ps []:=fun s us _ hl=>by
 rw [List.append_nil] at hl ⊢
 exact .of_eq (h us hl)
def hV (CX:CXT) (X:Cx) (E:XK):Prop:=∀ (pins:List (Addr × Obj)) (σ:St) (H:Hp) (s:Shared) (e:Value) (s':Shared),Inv X pins σ H s→CX X.stack H s E e s'→X.xe e s'
section
variable {X:Cx} {CX:CXT} {k:Nat} {f C:Addr} {fd:FuncData} {ps:List Str} {sp:Sp} {dvs:List V} {ds:List Value} {E:XK} {x m:Str} {p pos apos:Pos} {e o:Expr} {es:List Expr} {ta:TE} {t:TA}
theorem zF {pins:List (Addr × Obj)} {σ:St} {H:Hp} {s:Shared} {Q:VK} {us:List Value} {vs:List V} (F:FnOk X.prog X.w X.K X.mg X.base CX k f fd ps sp) (hr:Room k X.A) (hb:Binds X.K fd ps ds) (hd:Vals dvs ds) (hx:hV CX X E)
   (I:Inv X pins σ H s) (r:Vals vs us) (h:sp (vs ++ dvs) H Q E):wpAny (model X.prog X.w) X.A (call (.ref f) us) (EP X pins σ Q) X.xe s:=by
 have r2:Vals (vs ++ dvs) (us ++ ds):=r.append hd
 have hl:(us ++ ds).length=ps.length:=by rw [← r2.length]; exact F.len _ _ _ _ h
 refine wpAny_call (codeAny_mono (F.run X.A X.stack s H ⟨us,[]⟩ (us ++ ds) (vs ++ dvs) Q E hr I.env0 (hb s us I.kIn hl) r2 h) fun r s' hq=>?_)
 cases r with
 | error e=>exact hx pins σ H s e s' I hq
 | ok fl =>
   cases fl with
   | ret u=>exact I.after hq
   | next=>exact False.elim hq
   | brk=>exact False.elim hq
   | cont=>exact False.elim hq
theorem aq (F:FnOk X.prog X.w X.K X.mg X.base CX k f fd ps sp) (hr:Room k X.A) (hg:Gl X x) (hm:X.mg x=some (.ref f)) (hk:PySem.W.keepIn X.K (.ref f)=true) (hb:Binds X.K fd ps ds) (hd:Vals dvs ds) (hx:hV CX X E)
   (ha:PA X (e :: es) t) (hdb:(x == ("__debug__":Str))=false:=by decide) (he:starEach (e :: es) X.env=(false,eval e X.env) :: starEach es X.env:=by rfl) (hpl:(backTo pos (starEach es X.env)).any (·.1)=false:=by rfl) :
   PE X (.Call (.Name x p) (e :: es) [] pos) (nW sp dvs E t):=by
 intro pins s σ H Q I h
 refine wpAny_Call_Name_kw (dH I hg hm ?_ hdb)
 refine PySem.W.callWith_K (h₀:=X.base) I.ok.mod.kin hk (gJ (ha pos pins s σ H _ I h) fun us s1 vs H1 I1 r q=>⟨I1.kIn,?_⟩) he hpl
 exact zF F hr hb hd hx I1 r q
structure Mk (K:PySem.W.Frag) (C f:Addr):Prop where
 makes:PySem.W.makesIn K C=true
 init:PySem.W.findIn K (.ref C) "__init__"=some (some (.ref f))
 fn:PySem.W.isFn K (.ref f)=true
 kp:PySem.W.keepIn K (.ref C)=true
theorem uB {pins:List (Addr × Obj)} {σ:St} {H:Hp} {s:Shared} {Q:VK} {us:List Value} {vs:List V} (M:Mk X.K C f) (F:FnOk X.prog X.w X.K X.mg X.base CX k f fd ps sp) (hr:Room (k + 1) X.A) (hb:Binds X.K fd ps ds) (hd:Vals dvs ds)
   (hx:hV CX X E) (I:Inv X pins σ H s) (r:Vals vs us)
   (h:∀ x dx,H x=none→H dx=none→dx≠x→sp (.ref x :: (vs ++ dvs)) (upd (upd H dx (.own x)) x (.ins C dx [])) (fun v H2=>v=.non∧Q (.ref x) H2) E) :
   wpAny (model X.prog X.w) X.A (call (.ref C) us) (EP X pins σ Q) X.xe s:=by
 have hq:=h (s.heap.objs.size + 1) s.heap.objs.size (I.hok.fresh (Nat.le_succ _)) (I.hok.fresh (Nat.le_refl _)) (Nat.ne_of_lt (Nat.lt_succ_self _))
 have I2:=Inv.made (C:=C) I
 have r2:Vals (V.ref (s.heap.objs.size + 1) :: (vs ++ dvs)) (Value.ref (s.heap.objs.size + 1) :: (us ++ ds)):=.cons rfl (r.append hd)
 have hl:(Value.ref (s.heap.objs.size + 1) :: us ++ ds).length=ps.length:=by
   have e:=r2.length
   rw [F.len _ _ _ _ hq] at e
   exact e.symm
 refine wpAny_call (wP (f:=f) I.kIn M.makes M.init (beq_iff_eq.mp M.fn) (codeAny_mono (F.run _ X.stack _ _ ⟨Value.ref (s.heap.objs.size + 1) :: us,[]⟩ (Value.ref (s.heap.objs.size + 1) :: (us ++ ds)) _ _ E (hr.make C us [])
   (I2.env0.make C us []) (hb _ (Value.ref (s.heap.objs.size + 1) :: us) I2.kIn hl) r2 hq) fun r s' hq'=>?_))
 cases r with
 | error e=>exact hx pins σ _ _ e s' I2 hq'
 | ok fl =>
   cases fl with
   | ret u =>
     obtain ⟨v,H',I3,rv,ev,q3⟩:=I2.after hq'
     subst ev
     exact ⟨rv,⟨V.ref (s.heap.objs.size + 1),H',I3,rfl,q3⟩⟩
   | next=>exact False.elim hq'
   | brk=>exact False.elim hq'
   | cont=>exact False.elim hq'
theorem zr (M:Mk X.K C f) (F:FnOk X.prog X.w X.K X.mg X.base CX k f fd ps sp) (hr:Room (k + 1) X.A) (hg:Gl X x) (hm:X.mg x=some (.ref C)) (hb:Binds X.K fd ps ds) (hd:Vals dvs ds) (hx:hV CX X E)
   (ha:PA X (e :: es) t) (hdb:(x == ("__debug__":Str))=false:=by decide) (he:starEach (e :: es) X.env=(false,eval e X.env) :: starEach es X.env:=by rfl) (hpl:(backTo pos (starEach es X.env)).any (·.1)=false:=by rfl) :
   PE X (.Call (.Name x p) (e :: es) [] pos) (rQ C sp dvs E t):=by
 intro pins s σ H Q I h
 refine wpAny_Call_Name_kw (dH I hg hm ?_ hdb)
 refine PySem.W.callWith_K (h₀:=X.base) I.ok.mod.kin M.kp (gJ (ha pos pins s σ H _ I h) fun us s1 vs H1 I1 r q=>⟨I1.kIn,?_⟩) he hpl
 exact uB M F hr hb hd hx I1 r q
end
section
variable {X:Cx} {CX:CXT} {k:Nat} {f C:Addr} {fd:FuncData} {ps ks:List Str} {sp:Sp} {E:XK} {x m:Str} {p pos apos kpos:Pos} {e o:Expr} {es:List Expr} {kws:List Keyword} {te ta:TE} {t tk:TA} {nm:Option Str}
variable {g:List Value→List Value→List Value} {gV:List V→List V→List V}
end
structure FnScope (N P:List Str) (sc:Scope):Prop where
 kind:sc.kind=.function
 co:sc.isCoroutine=false
 gen:sc.isGenerator=false
 nd:N.Nodup
 pre:N.take P.length=P
 par:∀ x∈P,sc.names.lookup x=some .local∨sc.names.lookup x=some .cell
 nofree:∀ y∈sc.names,y.2≠.free
theorem nG {kindOf:Str→Option NameKind} {x:Str}:∀ {binds:List (Str × Value)} {m:Str→Option Value},(∀ v,(x,v) ∉ binds)→bindL kindOf binds m x=m x
 | [],_,_=>rfl
 | (n,v) :: r,m,h=>by
   unfold bindL
   rw [nG fun w hw=>h w (List.mem_cons_of_mem _ hw)]
   split
   · have:x≠n:=by rintro rfl; exact h v List.mem_cons_self
     simp [this]
   · rfl
theorem nD {kindOf:Str→Option NameKind} {x:Str}:∀ {binds:List (Str × Value)} {m:Str→Option Value},(∀ v,(x,v) ∉ binds)→bindC kindOf binds m x=m x
 | [],_,_=>rfl
 | (n,v) :: r,m,h=>by
   unfold bindC
   rw [nD fun w hw=>h w (List.mem_cons_of_mem _ hw)]
   split
   · rfl
   · have:x≠n:=by rintro rfl; exact h v List.mem_cons_self
     simp [this]
theorem nz {kindOf:Str→Option NameKind} {x:Str} {v:Value}:∀ {P:List Str} {vs:List Value} {i:Nat} {m:Str→Option Value},P.Nodup→P[i]?=some x→vs[i]?=some v→kindOf x=some .local →
   bindL kindOf (P.zip vs) m x=some v
 | [],_,_,_,_,h,_,_=>by simp at h
 | _ :: _,[],_,_,_,_,h,_=>by simp at h
 | p :: P,w :: vs,0,m,nd,h1,h2,hk=>by
   simp at h1 h2; subst h1; subst h2
   show bindL kindOf ((p,w) :: P.zip vs) m p=_
   unfold bindL
   rw [nG fun v hv=>(List.nodup_cons.mp nd).1 (List.of_mem_zip hv).1,if_pos hk]
   simp
 | p :: P,w :: vs,i + 1,m,nd,h1,h2,hk=>by
   show bindL kindOf ((p,w) :: P.zip vs) m x=_
   unfold bindL
   exact nz (i:=i) (List.nodup_cons.mp nd).2 (by simpa using h1) (by simpa using h2) hk
theorem mU {kindOf:Str→Option NameKind} {x:Str} {v:Value}:∀ {P:List Str} {vs:List Value} {i:Nat} {m:Str→Option Value},P.Nodup→P[i]?=some x→vs[i]?=some v→kindOf x≠some .local →
   bindC kindOf (P.zip vs) m x=some v
 | [],_,_,_,_,h,_,_=>by simp at h
 | _ :: _,[],_,_,_,_,h,_=>by simp at h
 | p :: P,w :: vs,0,m,nd,h1,h2,hk=>by
   simp at h1 h2; subst h1; subst h2
   show bindC kindOf ((p,w) :: P.zip vs) m p=_
   unfold bindC
   rw [nD fun v hv=>(List.nodup_cons.mp nd).1 (List.of_mem_zip hv).1,if_neg hk]
   simp
 | p :: P,w :: vs,i + 1,m,nd,h1,h2,hk=>by
   show bindC kindOf ((p,w) :: P.zip vs) m x=_
   unfold bindC
   exact mU (i:=i) (List.nodup_cons.mp nd).2 (by simpa using h1) (by simpa using h2) hk
def start (N:List Str) (vs:List V):St:=vs.map some ++ List.replicate (N.length - vs.length) none
def eT (CX:CXT) (P:Program) (w:World) (K:PySem.W.Frag) (mg:Str→Option Value) (base:Heap) (N:List Str) (qual:Str) (scope:Scope) (f:Addr) (cd:Value) (A:Around) (outer:List Env) (s:Shared) (H:Hp) (E:XK):Cx where
 prog:=P
 w:=w
 K:=K
 mg:=mg
 base:=base
 A:=A.deeper (envOfC qual scope s.heap.objs.size f cd)
 N:=N
 s₀:=s
 H₀:=H
 env:=envOfC qual scope s.heap.objs.size f cd
 outer:=outer
 stack:=envOfC qual scope s.heap.objs.size f cd :: outer
 ex:=[]
 calm:=true
 fn:=fun _=>true
 pn:=[]
 xe:=fun e s'=>wpAny (model P w) (A.deeper (envOfC qual scope s.heap.objs.size f cd)) (leaving (envOfC qual scope s.heap.objs.size f cd) e) (fun _ s''=>CX outer H s E e s'') (fun e' s''=>CX outer H s E e' s'') s'
theorem eR {sc:Scope} {n:Nat} {x:Str} (h:sc.names.lookup x=some .cell):∃ c,(cellsFrom n sc.names []).lookup x=some c:=by
 have q:=PySem.W.cellsFrom_some sc.names n [] (.inl h)
 exact Option.isSome_iff_exists.mp q
theorem sR {CX:CXT} {P:Program} {w:World} {K:PySem.W.Frag} {mg:Str→Option Value} {base:Heap} {N ps:List Str} {qual:Str} {scope:Scope} {f:Addr} {cd:Value} {A:Around} {outer:List Env} {s s1:Shared} {H:Hp} {E:XK} {us:List Value} {vs:List V}
   (S:FnScope N ps scope) (hd:A.handled=none) (e0:Env0 P w K mg base A outer s H) (hl:vs.length=ps.length) (r:Vals vs us)
   (x:InCallC s s.heap.objs.size (bindL (envOfC qual scope s.heap.objs.size f cd).kindOf (ps.zip us) fun _=>none) (cellsFrom (s.heap.objs.size + 1) scope.names []) (bindC (envOfC qual scope s.heap.objs.size f cd).kindOf (ps.zip us) fun _=>none) s1) :
   Inv (eT CX P w K mg base N qual scope f cd A outer s H E) [] (start N vs) H s1:=by
 have hpl:ps.length≤N.length:=by have:=congrArg List.length S.pre; rw [List.length_take] at this; omega
 obtain ⟨h1,tk,rfl,hk⟩:=x.done
 have noA:∀ b:Addr,b ∉ (eT CX P w K mg base N qual scope f cd A outer s H E).ex:=fun b z=>absurd (show b∈([]:List Addr) from z) (by simp)
 refine ⟨⟨e0.mod,S.kind,rfl,rfl,Nat.le_refl _,fun y z c h1 h2=>?_,fun y hy=>?_,fun y c _ h=>?_,fun _=>hd,Around.frames_deeper e0.frames,.inr ⟨rfl,rfl⟩,fun b z=>absurd z (noA b),e0.bs,e0.bsz,fun b _ _=>noA b,fun b z=>absurd z (noA b),e0.funs,e0.frf⟩,
   rfl,e0.bare,Un.kept hk,⟨_,x.toInCall.ns,fun i y v h1 h2 h3=>?_⟩,fun y c h=>⟨_,x.cell y c h⟩,e0.hok.fresh (Nat.le_refl _),fun y c h=>?_,fun p hp=>absurd (show p∈([]:List (Addr × Obj)) from hp) (by simp),e0.hok.kept hk,?_⟩
 · exact name_of_addr x.apart (PySem.mem_of_lookup h1) (PySem.mem_of_lookup h2)
 · have hy:scope.names.lookup y=some .cell∨scope.names.lookup y=some .free:=hy
   rcases hy with hy | hy
   · exact eR hy
   · exact absurd rfl (S.nofree _ (PySem.mem_of_lookup hy))
 · exact Nat.le_of_lt (x.above y c (PySem.mem_of_lookup h))
 · have hi:i < vs.length:=by
     unfold start at h2
     by_cases hi:i < vs.length
     · exact hi
     · rw [List.getElem?_append_right (by simpa using hi)] at h2
       rw [List.getElem?_replicate] at h2
       split at h2 <;> cases h2
   have ha:vs[i]?=some v:=by
     unfold start at h2
     rw [List.getElem?_append_left (by simpa using hi),List.getElem?_map] at h2
     cases e:vs[i]? with
     | none=>rw [e] at h2; cases h2
     | some a=>rw [e] at h2; cases h2; rfl
   obtain ⟨u,hu,rv⟩:=r.get ha
   have hp:ps[i]?=some y:=by
     rw [← S.pre,List.getElem?_take_of_lt (by omega)]; exact h1
   have ndP:ps.Nodup:=by rw [← S.pre]; exact S.nd.sublist (List.take_sublist _ _)
   refine ⟨u,rv,?_⟩
   rcases S.par y (List.mem_of_getElem? hp) with k | k
   · exact .inl ⟨k,nz ndP hp hu k⟩
   · obtain ⟨c,e⟩:=eR (n:=s.heap.objs.size + 1) k
     refine .inr ⟨.inl k,c,e,?_⟩
     have q:=x.cell y c e
     rw [mU ndP hp hu (by show scope.names.lookup y≠_; rw [k]; decide)] at q
     exact q
 · exact e0.hok.fresh (Nat.le_of_lt (x.above y c (PySem.mem_of_lookup h)))
 · unfold start
   show _=N.length
   rw [List.length_append,List.length_map,List.length_replicate]
   omega
theorem yi {CX:CXT} {P:Program} {w:World} {K:PySem.W.Frag} {mg:Str→Option Value} {base:Heap} {k:Nat} {f:Addr} {name qual:Str} {params:Arguments} {body:List Stmt} {scope:Scope} {dV kV doc pm cdv ct oc:Value} {an od:Option Addr}
   {osl:Array (Option Value)} {N ps:List Str} {sp:Sp} (lk:K.lookup f=some ⟨oc,od,.func (PySem.W.fnOf name qual params body scope dV kV doc pm an cdv ct),osl⟩) (hcd:PySem.W.codeIn K cdv qual=true) (S:FnScope N ps scope)
   (len:∀ vs H Q E,sp vs H Q E→vs.length=ps.length)
   (hbody:∀ (A:Around) (outer:List Env) (s:Shared) (H:Hp) (vs:List V) (Q:VK) (E:XK),Room k (A.deeper (envOfC qual scope s.heap.objs.size f cdv))→sp vs H Q E →
     ∃ t,PSs (eT CX P w K mg base N qual scope f cdv A outer s H E) body t∧t { nx:=fun _ H'=>Q .non H',rt:=Q } (start N vs) H) :
   FnOk P w K mg base CX (k + 1) f (PySem.W.fnOf name qual params body scope dV kV doc pm an cdv ct) ps sp:=by
 refine ⟨len,fun A outer s H args us vs Q E hr e0 hb r hsp=>?_⟩
 have hl:=len _ _ _ _ hsp
 have KX:K.In s.heap:=e0.mod.kin.keeps fun b o e=>(e0.bs b o e).1
 have lim:s.heap.NoLimit:=e0.mod.nolimit.keeps fun b o e=>(e0.bs b o e).1
 have hkind:∀ y∈ps.zip us,scope.names.lookup y.1=some .local∨(scope.names.lookup y.1=some .cell∧((cellsFrom (s.heap.objs.size + 1) scope.names []).lookup y.1).isSome=true):=fun ⟨n,v⟩ hy=>by
   rcases S.par n (List.of_mem_zip hy).1 with q | q
   · exact .inl q
   · exact .inr ⟨q,PySem.W.cellsFrom_some _ _ _ (.inl q)⟩
 refine codeAny_call_function hr.depth (KX _ _ lk) rfl S.co S.gen rfl (PySem.W.codeRec_of KX hcd) (hb _ _ _ _ ?_)
 refine wpAny_newFunctionEnv_cells S.kind hkind fun env he s1 x=>?_
 subst he
 refine ⟨lim.keeps x.toInCall.keep,codeAny_func ?_⟩
 obtain ⟨t,ht,hq⟩:=hbody A outer s H vs Q E (hr.deeper _) hsp
 have I:Inv (eT CX P w K mg base N qual scope f cdv A outer s H E) [] (start N vs) H s1:=sR S hr.hd e0 hl r x
 refine wpAny_mono (ht [] s1 (start N vs) H _ I hq) (fun fl s' hs=>?_) fun e s' hs=>hs
 have fin:∀ {σ':St} {H':Hp} {v:V} {u:Value},Inv (eT CX P w K mg base N qual scope f cdv A outer s H E) [] σ' H' s'→RelV v u→Q v H'→CE outer P w H s Q u s' :=
   fun {σ' H' v u} J rv q=>⟨v,H',J.os,J.bare,J.base,J.hok,rv,q⟩
 cases fl with
 | ret u =>
   obtain ⟨v,σ',H',J,rv,q⟩:=hs
   exact fin J rv q
 | next =>
   obtain ⟨σ',H',J,q⟩:=hs
   exact fin (v:=V.non) (u:=Value.none) J rfl q
 | brk =>
   obtain ⟨_,_,_,q⟩:=hs
   exact False.elim q
 | cont =>
   obtain ⟨_,_,_,q⟩:=hs
   exact False.elim q
end L2
namespace L2
open PySem PySem.Spec PyProof.Rows
section
variable {X:Cx} {x:Str} {p pos:Pos} {e:Expr} {es:List Expr} {t:TA} {id T:String} {r:List V→Hp→VK→Prop}
def tCB (r:List V→Hp→VK→Prop) (t:TA):TE:=fun σ H Q=>t σ H fun vs H1=>r vs H1 Q
theorem bQ (hc:dz X (.builtin id) r) (hg:Gl X x) (hm:X.mg x=none) (hv:bootBuiltins x=some (.builtin id)) (ha:PA X (e :: es) t) (hn:x≠"__name__":=by decide) (hdb:(x == ("__debug__":Str))=false:=by decide)
   (he:starEach (e :: es) X.env=(false,eval e X.env) :: starEach es X.env:=by rfl) (hpl:(backTo pos (starEach es X.env)).any (·.1)=false:=by rfl):PE X (.Call (.Name x p) (e :: es) [] pos) (tCB r t):=by
 intro pins s σ H Q I h
 refine wpAny_Call_Name_kw (fu I hg hm hv ?_ hn hdb)
 exact PyProof.Rows.callWith_builtin1 (gJ (ha pos pins s σ H _ I h) fun us s1 vs H1 I1 r1 q1=>hc pins s1 σ H1 vs us Q I1 r1 q1) he hpl
theorem cP (hc:dz X (.type T) r) (hg:Gl X x) (hm:X.mg x=none) (hv:bootBuiltins x=some (.type T)) (ha:PA X (e :: es) t) (hn:x≠"__name__":=by decide) (hdb:(x == ("__debug__":Str))=false:=by decide)
   (he:starEach (e :: es) X.env=(false,eval e X.env) :: starEach es X.env:=by rfl) (hpl:(backTo pos (starEach es X.env)).any (·.1)=false:=by rfl):PE X (.Call (.Name x p) (e :: es) [] pos) (tCB r t):=by
 intro pins s σ H Q I h
 refine wpAny_Call_Name_kw (fu I hg hm hv ?_ hn hdb)
 exact PyProof.Rows.callWith_type1 (gJ (ha pos pins s σ H _ I h) fun us s1 vs H1 I1 r1 q1=>hc pins s1 σ H1 vs us Q I1 r1 q1) he hpl
end
end L2
namespace HT
open PySem PyProof.Rows
section
open PySem.SeqAt
open PySem.AutoSeq1 (wpAny_loadPart')
open PySem.MeetsSeq PySem.MeetsSeq2 PySem.MeetsSeq3
end
section
variable {prog:Program} {w:World} {A:Around} {E:Value→Shared→Prop} {s:Shared}
end
end HT
namespace L2
open PySem PySem.Spec PyProof.Rows
abbrev TO:=St→Hp→(Option Int→Hp→Prop)→Prop
def PO (X:Cx) (e:Option Expr) (t:TO):Prop :=
 ∀ (pins:List (Addr × Obj)) (s:Shared) (σ:St) (H:Hp) (Q:Option Int→Hp→Prop),Inv X pins σ H s→t σ H Q →
   wpAny (model X.prog X.w) X.A (evalPart e X.env) (fun u s'=>∃ o H',Inv X pins σ H' s'∧IsPart u o∧Q o H') X.xe s
section
variable {X:Cx} {e:Expr} {te:TE} {lo hi:Option Expr} {tl th:TO} {pos p2:Pos}
end
end L2
namespace L2
open PySem PySem.Spec PyProof.Rows
def ixN (n:Nat) (i:Int):Option Nat:=if 0≤i then (if i < n then some i.toNat else none) else if -(n:Int)≤i then some (i + n).toNat else none
def atI {α:Type} (xs:List α) (i:Int):Option α:=(ixN xs.length i).bind fun j=>xs[j]?
theorem qt {n:Nat} {i:Int} {j:Nat} (h:ixN n i=some j):seqIndex? i n=some j∧j < n∧-(n:Int)≤i∧i < n:=by
 unfold ixN at h
 by_cases h0:0≤i
 · rw [if_pos h0] at h
   by_cases h1:i < n
   · rw [if_pos h1] at h
     have e:i.toNat=j:=Option.some.inj h
     exact ⟨by rw [seqIndex_of h0 h1,e],by omega,by omega,h1⟩
   · rw [if_neg h1] at h; cases h
 · rw [if_neg h0] at h
   by_cases h1:-(n:Int)≤i
   · rw [if_pos h1] at h
     have e:(i + n).toNat=j:=Option.some.inj h
     exact ⟨by rw [seqIndex_neg (by omega) h1,e],by omega,h1,by omega⟩
   · rw [if_neg h1] at h; cases h
theorem mK {α:Type} {xs:List α} {i:Int} {v:α} (h:atI xs i=some v):∃ j,seqIndex? i xs.length=some j∧xs[j]?=some v∧j < xs.length∧-(xs.length:Int)≤i∧i < xs.length:=by
 unfold atI at h
 cases e:ixN xs.length i with
 | none=>rw [e] at h; cases h
 | some j =>
   rw [e] at h
   obtain ⟨h1,h2,h3,h4⟩:=qt e
   exact ⟨j,h1,h,h2,h3,h4⟩
theorem zm {α:Type} {xs:List α} {j:Nat} {v:α} (h:xs[j]?=some v):atI xs (j:Int)=some v:=by
 have hj:j < xs.length:=(List.getElem?_eq_some_iff.mp h).1
 have e:ixN xs.length (j:Int)=some j:=by
   unfold ixN
   rw [if_pos (by omega),if_pos (by omega)]; simp
 unfold atI; rw [e]; exact h
theorem kH {α:Type} (xs:List α) (v:α):atI (xs ++ [v]) (-1)=some v:=by
 have hl:(xs ++ [v]).length=xs.length + 1:=by simp
 have e:ixN (xs ++ [v]).length (-1)=some xs.length:=by
   unfold ixN
   rw [hl,if_neg (by decide),if_pos (by omega)]
   congr 1
   omega
 unfold atI
 rw [e]
 show (xs ++ [v])[xs.length]?=some v
 simp
def y7 (b:Expr):Prop:=∀ o i,subscripted b false o i=operate [o,i] (getItem o i)
def IxR (X:Cx) (r:R2):Prop :=
 ∀ (value slice:Expr) (pins:List (Addr × Obj)) (s:Shared) (σ:St) (H:Hp) (x y:V) (v u:Value) (Q:VK),Inv X pins σ H s→RelV x v→RelV y u→r x y H Q →
   subscripted slice false v u=operate [v,u] (getItem v u)→wpAny (model X.prog X.w) X.A (subscriptTail value slice v u) (EP X pins σ Q) X.xe s
def MtR (X:Cx) (id:String) (r:V→List V→Hp→VK→Prop):Prop :=
 ∀ (pins:List (Addr × Obj)) (s:Shared) (σ:St) (H:Hp) (x:V) (xs:List V) (v:Value) (us:List Value) (Q:VK),Inv X pins σ H s→RelV x v→Vals xs us→r x xs H Q →
   wpAny (model X.prog X.w) X.A (call (.builtin id) (v :: us)) (EP X pins σ Q) X.xe s
section
variable {X:Cx} {a b:Expr} {ta tb:TE} {pos:Pos}
theorem aP {r:R2} (hr:IxR X r) (ha:PE X a ta) (hb:PE X b tb) (hs:y7 b):PE X (.Subscript a b pos) (tOp r ta tb):=by
 intro pins s σ H Q I h
 exact Subscript_ (we ha hb I h fun v u s2 x y H2 I2 rx ry q=>hr a b pins s2 σ H2 x y v u Q I2 rx ry q (hs _ _))
def ou (K:PySem.W.Frag):R2:=fun x y H Q=>∃ p xs i v,x=.ref p∧y=.int i∧SqL K H p xs∧atI xs i=some v∧Q v H
def rT (K:PySem.W.Frag):R2:=fun x y H Q=>∃ p xs i v,x=.ref p∧y=.int i∧SqT K H p xs∧atI xs i=some v∧Q v H
theorem bO:IxR X (ou X.K):=by
 intro value slice pins s σ H x y v u Q I rx ry h hs
 obtain ⟨p,xs,i,z,rfl,rfl,hq,he,q⟩:=h
 cases rx
 obtain ⟨t,rfl⟩:=ry
 obtain ⟨its,r,pl,hz⟩:=I.list hq
 obtain ⟨j,h1,h2,h3,h4,h5⟩:=mK he
 obtain ⟨w,ew,rw'⟩:=r.get h2
 have hl:=r.length
 have hn:=gj
 have fin:EP X pins σ Q w s:=⟨z,H,I,rw',q⟩
 by_cases h0:0≤i
 · have hj:i.toNat=j:=by
     rw [seqIndex_of h0 h5] at h1
     exact Option.some.inj h1
   exact item_listR pl.isList h0 (by omega) (by rw [hj]; simpa using ew) fin hs
 · have hj:(i + (its.toArray.size:Int)).toNat=j:=by
     rw [seqIndex_neg (by omega) h4] at h1
     rw [List.size_toArray,← hl]
     exact Option.some.inj h1
   exact subscriptTail_builtinR (x:=w) pl.isList.typeIs slot_list_getitem.lookup
     (wpAny_getItem_list_neg (Q:=fun r s'=>r=w∧EP X pins σ Q r s') pl.isList (by omega) (by rw [List.size_toArray] <;> omega) (by omega) (by rw [hj]; simpa using ew) ⟨rfl,fin⟩) hs
theorem bF:IxR X (rT X.K):=by
 intro value slice pins s σ H x y v u Q I rx ry h hs
 obtain ⟨p,xs,i,z,rfl,rfl,hq,he,q⟩:=h
 cases rx
 obtain ⟨t,rfl⟩:=ry
 obtain ⟨its,r,pl,hz⟩:=I.tuple hq
 obtain ⟨j,h1,h2,h3,h4,h5⟩:=mK he
 obtain ⟨w,ew,rw'⟩:=r.get h2
 have hl:=r.length
 have hn:=gj
 have fin:EP X pins σ Q w s:=⟨z,H,I,rw',q⟩
 exact subscriptTail_builtinR (x:=w) pl.typeIs slot_tuple_getitem.lookup
   (getItem_tuple (j:=j) (Q:=fun r s'=>r=w∧EP X pins σ Q r s') pl (by omega) (by omega) (by rw [List.size_toArray,← hl]; exact h1) (by simpa using ew) ⟨rfl,fin⟩) hs
theorem rF (its:List Value) (n j:Nat) (u:Value):Obj.mapSeq (·.setIfInBounds j u) { cls:=.type "list",data:=.seq its.toArray n }={ cls:=.type "list",data:=.seq (its.set j u).toArray n }:=by
 simp [Obj.mapSeq]
theorem Inv.lst {pins:List (Addr × Obj)} {σ:St} {H:Hp} {s:Shared} {p:Addr} {xs:List V} (I:Inv X pins σ H s) (h:H p=some (.lst xs)) :
   ∃ (its:List Value) (n:Nat),Vals xs its∧s.heap.get? p=some { cls:=.type "list",data:=.seq its.toArray n }∧xs.length≤sizeLine:=by
 obtain ⟨z,its,n,r,e⟩:=I.hok p _ h
 exact ⟨its,n,r,e,z⟩
theorem Inv.lstUpd {pins:List (Addr × Obj)} {σ:St} {H:Hp} {s:Shared} {p:Addr} {xs ys:List V} {its its':List Value} {n n':Nat} {f:Obj→Obj} (I:Inv X pins σ H s) (h:H p=some (.lst xs))
   (ho:s.heap.get? p=some { cls:=.type "list",data:=.seq its.toArray n }) (hf:f { cls:=.type "list",data:=.seq its.toArray n }={ cls:=.type "list",data:=.seq its'.toArray n' }) (r:Vals ys its') (hz:ys.length≤sizeLine) (t:Nat) :
   Inv X pins σ (upd H p (.lst ys)) { s with heap:=s.heap.update p f,toks:=t }:=by
 have e:(s.heap.update p f).get? p=some { cls:=.type "list",data:=.seq its'.toArray n' }:=by
   rw [Heap.get?_update_self f ho (by rw [hf] <;> rfl),hf]
 refine I.write (x:=p) (e:=p) (by rw [h]; trivial) (.inl rfl) (fun b u hb q=>(Heap.get?_update_other _ _ (Ne.symm hb)).trans q) ⟨_,e⟩ ?_
 exact ⟨hz,its',n',r,e⟩
def rSetL:V→V→V→Hp→(Hp→Prop)→Prop:=fun o i v H Q=>∃ p xs k j,o=.ref p∧i=.int k∧H p=some (.lst xs)∧ixN xs.length k=some j∧Q (upd H p (.lst (xs.set j v)))
theorem dD:uW X rSetL:=by
 intro pins s σ H o i v ov iv u Q I ro ri rv h
 obtain ⟨p,xs,k,j,rfl,rfl,hp,hj,q⟩:=h
 cases ro
 obtain ⟨t,rfl⟩:=ri
 obtain ⟨its,n,r,ho,hz⟩:=I.lst hp
 obtain ⟨h1,h2,h3,h4⟩:=qt hj
 have hl:=r.length
 have hn:=gj
 have I':Inv X pins σ (upd H p (.lst (xs.set j v))) { s with heap:=s.heap.update p (Obj.mapSeq (·.setIfInBounds j u)) } :=
   I.lstUpd hp ho (rF its n j u) (r.set rv j) (by rw [List.length_set]; exact hz) s.toks
 by_cases h0:0≤k
 · have hk:k.toNat=j:=by
     rw [seqIndex_of h0 h4] at h1
     exact Option.some.inj h1
   exact PySem.W.ki_setAt ho h0 (by omega) (by rw [List.size_toArray,← hl]; exact h4) (by rw [hk]; exact ⟨_,I',q⟩)
 · have hk:(k + (its.toArray.size:Int)).toNat=j:=by
     rw [seqIndex_neg (by omega) h3] at h1
     rw [List.size_toArray,← hl]
     exact Option.some.inj h1
   exact PySem.W.ki_setBack ho (by omega) (by rw [List.size_toArray,← hl]; exact h3) (by omega) (by rw [hk]; exact ⟨_,I',q⟩)
def fW:V→Bool
 | .non=>true
 | .bl _=>true
 | .int _=>true
 | .str _=>true
 | _=>false
def eqV:V→V→Bool
 | .non,.non=>true
 | .bl a,.bl b=>a == b
 | .bl a,.int b=>(if a then 1 else 0) == b
 | .int a,.bl b=>a == (if b then 1 else 0)
 | .int a,.int b=>a == b
 | .str a,.str b=>a == b
 | _,_=>false
theorem As {A:Around} {s:Shared} {y x:V} {u v:Value} (ry:RelV y u) (rx:RelV x v) (fy:fW y=true) (fx:fW x=true):SeqAt.EqAt A s u v (eqV y x):=by
 cases y with
 | non =>
   cases ry
   cases x with
   | non=>cases rx; exact SeqAt.EqAt.same _
   | bl b=>cases rx; exact SeqAt.EqAt.none_bool b
   | int b=>obtain ⟨t,rfl⟩:=rx; exact SeqAt.EqAt.none_int b t
   | str b=>obtain ⟨t,rfl⟩:=rx; exact SeqAt.EqAt.none_str b t
   | _=>exact absurd (show false=true from fx) Bool.false_ne_true
 | bl a =>
   cases ry
   cases x with
   | non=>cases rx; exact SeqAt.EqAt.bool_none a
   | bl b=>cases rx; exact SeqAt.EqAt.bool_bool a b
   | int b=>obtain ⟨t,rfl⟩:=rx; exact SeqAt.EqAt.bool_int a b t
   | str b=>obtain ⟨t,rfl⟩:=rx; exact SeqAt.EqAt.bool_str a b t
   | _=>exact absurd (show false=true from fx) Bool.false_ne_true
 | int a =>
   obtain ⟨t',rfl⟩:=ry
   cases x with
   | non=>cases rx; exact SeqAt.EqAt.int_none a t'
   | bl b=>cases rx; exact SeqAt.EqAt.int_bool a t' b
   | int b=>obtain ⟨t,rfl⟩:=rx; exact SeqAt.EqAt.int_int a t' b t
   | str b=>obtain ⟨t,rfl⟩:=rx; exact SeqAt.EqAt.int_str a t' b t
   | _=>exact absurd (show false=true from fx) Bool.false_ne_true
 | str a =>
   obtain ⟨t',rfl⟩:=ry
   cases x with
   | non=>cases rx; exact SeqAt.EqAt.str_none a t'
   | bl b=>cases rx; exact SeqAt.EqAt.str_bool a t' b
   | int b=>obtain ⟨t,rfl⟩:=rx; exact SeqAt.EqAt.str_int a t' b t
   | str b=>obtain ⟨t,rfl⟩:=rx; exact SeqAt.EqAt.str_str a t' b t
   | _=>exact absurd (show false=true from fx) Bool.false_ne_true
 | _=>exact absurd (show false=true from fy) Bool.false_ne_true
def eqU (x:V) (u:Value):Bool:=match u with
 | .none=>eqV .non x
 | .bool b=>eqV (.bl b) x
 | .int i _=>eqV (.int i) x
 | .str z _=>eqV (.str z) x
 | _=>false
theorem tF {x y:V} {u:Value} (r:RelV y u) (f:fW y=true):eqU x u=eqV y x:=by
 cases y with
 | non=>cases r; rfl
 | bl b=>cases r; rfl
 | int i=>obtain ⟨t,rfl⟩:=r; rfl
 | str z=>obtain ⟨t,rfl⟩:=r; rfl
 | _=>exact absurd (show false=true from f) Bool.false_ne_true
theorem mt {x:V}:∀ {xs:List V} {us:List Value},Vals xs us→xs.all fW=true→us.any (eqU x)=xs.any fun y=>eqV y x
 | _,_,.nil,_=>rfl
 | y :: xs,u :: us,.cons r t,f=>by
   rw [List.all_cons,Bool.and_eq_true] at f
   rw [List.any_cons,List.any_cons,tF r f.1,mt t f.2]
theorem kD {A:Around} {s:Shared} {x:V} {v:Value} (rx:RelV x v) (fx:fW x=true):∀ {xs:List V} {us:List Value},Vals xs us→xs.all fW=true→∀ u∈us,SeqAt.EqAt A s u v (eqU x u)
 | _,_,.nil,_=>fun u hu=>by cases hu
 | y :: xs,u :: us,.cons r t,f=>fun u' hu=>by
   rw [List.all_cons,Bool.and_eq_true] at f
   rcases List.mem_cons.mp hu with rfl | hu
   · rw [tF r f.1]; exact As r rx f.1 fx
   · exact kD rx fx t f.2 u' hu
def inV (x:V) (xs:List V):Bool:=xs.any fun y=>eqV y x
def rIn (K:PySem.W.Frag) (neg:Bool):R2:=fun x y H Q=>∃ p xs,y=.ref p∧(SqL K H p xs∨SqT K H p xs)∧fW x=true∧xs.all fW=true∧Q (.bl (if neg then !inV x xs else inV x xs)) H
theorem sU:OpR X (compareOp .In) (rIn X.K false):=by
 intro pins s σ H x y v u Q I rx ry h
 obtain ⟨p,xs,rfl,hq,fx,fs,q⟩:=h
 cases ry
 rcases hq with hq | hq
 · obtain ⟨its,r,pl,hz⟩:=I.list hq
   refine SeqAt.in_listAt (eqU x) pl.isList (fun w hw=>kD rx fx r fs w (by simpa using hw)) ⟨.bl _,H,I,rfl,?_⟩
   rw [show its.toArray.any (eqU x)=its.any (eqU x) by simp,mt r fs]
   exact q
 · obtain ⟨its,r,pl,hz⟩:=I.tuple hq
   refine SeqAt.in_tupleAt (eqU x) pl (fun w hw=>kD rx fx r fs w (by simpa using hw)) ⟨.bl _,H,I,rfl,?_⟩
   rw [show its.toArray.any (eqU x)=its.any (eqU x) by simp,mt r fs]
   exact q
theorem cC:dz X (.builtin "len") (fun xs H Q=>∃ p ys,xs=[.ref p]∧(SqL X.K H p ys∨SqT X.K H p ys)∧Q (.int ys.length) H):=by
 intro pins s σ H xs us Q I r h
 obtain ⟨p,ys,rfl,hq,q⟩:=h
 obtain ⟨u,rfl,rx⟩:=jM r
 cases rx
 have hn:=gj
 rcases hq with hq | hq
 · obtain ⟨its,r',pl,hz⟩:=I.list hq
   have hlen:=r'.length
   exact Calls.call_len_list pl.isList (by simp only [List.size_toArray] <;> omega) ⟨.int ys.length,H,I.tok _,⟨s.toks + 1,by rw [List.size_toArray,hlen]⟩,q⟩
 · obtain ⟨its,r',pl,hz⟩:=I.tuple hq
   have hlen:=r'.length
   exact len_tuple pl (by simp only [List.size_toArray] <;> omega) ⟨.int ys.length,H,I.tok _,⟨s.toks + 1,by rw [List.size_toArray,hlen]⟩,q⟩
theorem gd:dz X (.type "list") (fun xs H Q=>∃ p ys,xs=[.ref p]∧(SqL X.K H p ys∨SqT X.K H p ys)∧∀ l,H l=none→Q (.ref l) (upd H l (.lst ys))):=by
 intro pins s σ H xs us Q I r h
 obtain ⟨p,ys,rfl,hq,q⟩:=h
 obtain ⟨u,rfl,rx⟩:=jM r
 cases rx
 have fin:∀ (its:List Value),Vals ys its→ys.length≤sizeLine→∀ (h':Heap) (c':Nat),(∀ b o',s.heap.get? b=some o'→h'.get? b=some o') →
     h'.get? s.heap.objs.size=some { cls:=.type "list",dict:=none,data:=.seq its.toArray c',slots:=#[] }→EP X pins σ Q (.ref s.heap.objs.size) { s with heap:=h' }:=fun its r' hz h' c' kp e =>
   ⟨.ref s.heap.objs.size,_,I.laid (t':=s.toks) kp (Nat.le_refl _) (show ObjOk X.prog X.w _ h' _ (.lst ys) from ⟨hz,its,c',r',e⟩),rfl,q _ (I.hok.fresh (Nat.le_refl _))⟩
 rcases hq with hq | hq
 · obtain ⟨its,r',pl,hz⟩:=I.list hq
   have hlen:=r'.length
   obtain ⟨o,ho,hc,n,hd⟩:=pl.isList
   exact call_list_seq p (.inl rfl) ho hc hd (fun h' c' kp e=>fin its r' hz h' c' kp e) (by simp only [List.size_toArray] <;> omega)
 · obtain ⟨its,r',pl,hz⟩:=I.tuple hq
   have hlen:=r'.length
   obtain ⟨o,ho,hc,n,hd⟩:=pl
   exact call_list_seq p (.inr rfl) ho hc hd (fun h' c' kp e=>fin its r' hz h' c' kp e) (by simp only [List.size_toArray] <;> omega)
theorem cJ:dz X (.type "tuple") (fun xs H Q=>∃ p ys,xs=[.ref p]∧((SqL X.K H p ys∧∀ l,H l=none→Q (.ref l) (upd H l (.tup ys)))∨(SqT X.K H p ys∧Q (.ref p) H))):=by
 intro pins s σ H xs us Q I r h
 obtain ⟨p,ys,rfl,h⟩:=h
 obtain ⟨u,rfl,rx⟩:=jM r
 cases rx
 rcases h with ⟨hq,q⟩ | ⟨hq,q⟩
 · obtain ⟨its,r',pl,hz⟩:=I.list hq
   have hlen:=r'.length
   refine call_tuple_list pl.isList (fun h' kp=>?_) (by simp only [List.size_toArray] <;> omega)
   have I1:Inv X pins σ H { s with heap:=h' }:=I.kept (t':=s.toks) kp
   have I2:Inv X pins σ (upd H h'.objs.size (.tup ys)) { s with heap:=h'.push { cls:=.type "tuple",data:=.seq its.toArray } } :=
     I1.laid (t':=s.toks) (fun b o e=>Heap.get?_push_of_some _ e) (Nat.le_refl _) (show ObjOk X.prog X.w _ _ _ (.tup ys) from ⟨hz,its,r',IsTup.new _ _⟩)
   exact ⟨.ref h'.objs.size,_,I2,rfl,q _ (I1.hok.fresh (Nat.le_refl _))⟩
 · obtain ⟨its,r',pl,hz⟩:=I.tuple hq
   exact call_tuple_same pl ⟨.ref p,H,I,rfl,q⟩
def tyV (K:PySem.W.Frag) (T:String) (x:V) (H:Hp):Prop:=match x with
 | .str _=>T="str"
 | .int _=>T="int"
 | .ref p=>(T="list"∧∃ xs,SqL K H p xs)∨(T="tuple"∧∃ o,K.lookup p=some o∧o.cls=.type "tuple"∧o.dict=none) ∨
     (T="dict"∧((∃ kvs,H p=some (.dK kvs))∨∃ kvs,H p=some (.dT kvs)))∨(T="set"∧∃ S n,H p=some (.set S n))
 | _=>False
theorem tm {pins:List (Addr × Obj)} {σ:St} {H:Hp} {s:Shared} {T:String} {x:V} {v:Value} (I:Inv X pins σ H s) (r:RelV x v) (ty:tyV X.K T x H) :
   s.TypeIs v T∧∀ a,v=.ref a→∃ ob,s.heap.get? a=some ob∧ob.dict=none:=by
 cases x with
 | str z =>
   obtain ⟨t,rfl⟩:=r
   cases (show T="str" from ty)
   exact ⟨typeIs_str s z t,fun _ e=>nomatch e⟩
 | int i =>
   obtain ⟨t,rfl⟩:=r
   cases (show T="int" from ty)
   exact ⟨typeIs_int s i t,fun _ e=>nomatch e⟩
 | ref p =>
   cases r
   rcases ty with ⟨rfl,xs,hq⟩ | ⟨rfl,o,hk,hc,hd⟩ | ⟨rfl,hk⟩ | ⟨rfl,S,n,hk⟩
   · obtain ⟨its,_,pl,_⟩:=I.list hq
     refine ⟨pl.isList.typeIs,fun a e=>?_⟩
     cases e
     obtain ⟨o,n,e,c,hd,_⟩:=pl
     exact ⟨o,e,hd⟩
   · refine ⟨⟨o,I.kIn p o hk,hc⟩,fun a e=>?_⟩
     cases e
     exact ⟨o,I.kIn _ o hk,hd⟩
   · have z:∃ o,s.heap.get? p=some o∧o.ExactDict:=by
       rcases hk with ⟨kvs,hk⟩ | ⟨kvs,hk⟩
       · obtain ⟨_,_,_,_,o,_,_,e,ex,_⟩:=I.hok p _ hk
         exact ⟨o,e,ex⟩
       · obtain ⟨_,_,_,_,o,_,_,e,ex,_⟩:=I.hok p _ hk
         exact ⟨o,e,ex⟩
     obtain ⟨o,e,ex⟩:=z
     refine ⟨⟨o,e,ex.1⟩,fun a e2=>?_⟩
     cases e2
     exact ⟨o,e,ex.2.1⟩
   · obtain ⟨o,_,_,_,e,ex,_⟩:=I.hok p _ hk
     refine ⟨⟨o,e,ex.1⟩,fun a e2=>?_⟩
     cases e2
     exact ⟨o,e,ex.2.1⟩
 | _=>exact False.elim ty
def uV (K:PySem.W.Frag) (T:String) (r:V→List V→Hp→VK→Prop) (to:TE):TE:=fun σ H Q=>to σ H fun x H1=>tyV K T x H1∧r x [] H1 Q
def tBM (K:PySem.W.Frag) (T:String) (r:V→List V→Hp→VK→Prop) (to:TE) (t:TA):TE:=fun σ H Q=>to σ H fun x H1=>tyV K T x H1∧t σ H1 fun xs H2=>r x xs H2 Q
variable {o e:Expr} {es:List Expr} {to:TE} {t:TA} {name:Str} {apos cpos:Pos} {T id:String} {r:V→List V→Hp→VK→Prop}
theorem oN (pa:PlainAttrs T) (slot:Slot T name id) (hty:typeOf (.builtin id)=pure (.type "method_descriptor")) (hm:MtR X id r) (ho:PE X o to)
   (hbase:attributeBase o name X.env (eval o X.env)=eval o X.env:=by rfl) (hline:(apos.endLine == cpos.line)=true:=by rfl):PE X (.Call (.Attribute o name apos) [] [] cpos) (uV X.K T r to):=by
 intro pins s σ H Q I h
 refine wpAny_Call_method0_late hbase hline (bj (ho pins s σ H _ I h) fun v s1 x H1 I1 r1 ⟨ty,q1⟩=>?_)
 obtain ⟨h1,h2⟩:=tm I1 r1 ty
 exact ⟨T,id,pa,slot,hty,h1,h2,Calls.callWith_builtin rfl (PySem.evalArgs_none (hm pins s1 σ H1 x [] v [] Q I1 r1 .nil q1))⟩
theorem dP (pa:PlainAttrs T) (slot:Slot T name id) (hty:typeOf (.builtin id)=pure (.type "method_descriptor")) (hm:MtR X id r) (ho:PE X o to) (ha:PA X (e :: es) t)
   (hbase:attributeBase o name X.env (eval o X.env)=eval o X.env:=by rfl)
   (hfew:((backTo cpos (starEach (e :: es) X.env)).all (fun x=>!x.1) && (backToKw cpos (keywordEach [] X.env)).all (fun x=>x.1.isSome)
     && decide ((e :: es).length + ([]:List Keyword).length + (if ([]:List Keyword).isEmpty then 0 else 1) < 30))=true:=by rfl)
   (hline:(apos.endLine == cpos.line)=true:=by rfl) (hs:starEach (e :: es) X.env=(false,eval e X.env) :: starEach es X.env:=by rfl) (hplain:(backTo cpos (starEach es X.env)).any (·.1)=false:=by rfl) :
   PE X (.Call (.Attribute o name apos) (e :: es) [] cpos) (tBM X.K T r to t):=by
 intro pins s σ H Q I h
 refine wpAny_Call_method_late hbase hfew hline rfl (bj (ho pins s σ H _ I h) fun v s1 x H1 I1 r1 ⟨ty,q1⟩=>?_)
 obtain ⟨h1,h2⟩:=tm I1 r1 ty
 refine ⟨T,id,pa,slot,hty,h1,h2,?_⟩
 have hA:=ha cpos pins s1 σ H1 _ I1 q1
 rw [hs] at hA ⊢
 refine Calls.callWith_builtin (by show (false || (backTo cpos (starEach es X.env)).any (·.1))=false; rw [hplain] <;> rfl) (Calls.evalArgs_plain ?_)
 exact thn hA fun us s2 ⟨vs,H2,I2,r2,q2⟩=>hm pins s2 σ H2 x vs v us Q I2 r1 r2 q2
end
end L2
namespace L2
open PySem PySem.Spec PyProof.Rows
def MtM (X:Cx) (id:String) (r:V→List V→Hp→VK→Prop):Prop :=
 ∀ (pins:List (Addr × Obj)) (s:Shared) (σ:St) (H:Hp) (x:V) (xs:List V) (v:Value) (us:List Value) (Q:VK),Inv X pins σ H s→RelV x v→Vals xs us→r x xs H Q →
   wpAny (model X.prog X.w) X.A (call (.builtin id) (v :: us)) (EP X pins σ Q) X.xe s
theorem Vals.one {x:V} {us:List Value} (h:Vals [x] us):∃ u,us=[u]∧RelV x u:=by
 cases h with
 | cons r t=>cases t; exact ⟨_,rfl,r⟩
theorem Vals.two {x y:V} {us:List Value} (h:Vals [x,y] us):∃ u v,us=[u,v]∧RelV x u∧RelV y v:=by
 cases h with
 | cons r t =>
   obtain ⟨v,e,q⟩:=Vals.one t
   subst e
   exact ⟨_,v,rfl,r,q⟩
theorem Vals.zero:∀ {us:List Value},Vals [] us→us=[]
 | _,.nil=>rfl
theorem Vals.dropLast {xs:List V} {us:List Value} (h:Vals xs us):Vals xs.dropLast us.dropLast:=by
 induction h with
 | nil=>exact .nil
 | cons r t ih =>
   cases t with
   | nil=>exact .nil
   | cons q t'=>exact .cons r ih
theorem Vals.eraseIdx:∀ {xs:List V} {us:List Value} (i:Nat),Vals xs us→Vals (xs.eraseIdx i) (us.eraseIdx i)
 | _,_,_,.nil=>.nil
 | _,_,0,.cons _ t=>t
 | _,_,i + 1,.cons r t=>.cons r (Vals.eraseIdx i t)
theorem Vals.rep {xs:List V} {us:List Value} (h:Vals xs us):∀ k:Nat,Vals (List.replicate k xs).flatten (List.replicate k us).flatten
 | 0=>.nil
 | k + 1=>by
   rw [List.replicate_succ,List.replicate_succ,List.flatten_cons,List.flatten_cons]
   exact Vals.append h (Vals.rep h k)
theorem qL {α:Type} (l:List α):l.eraseIdx (l.length - 1)=l.dropLast:=by
 induction l with
 | nil=>rfl
 | cons a r ih =>
   cases r with
   | nil=>rfl
   | cons b r =>
     have e:(a :: b :: r).length - 1=((b :: r).length - 1) + 1:=by
       have h1:(a :: b :: r).length=r.length + 2:=rfl
       have h2:(b :: r).length=r.length + 1:=rfl
       omega
     rw [e,List.eraseIdx_cons_succ,ih]
     all_goals rfl
theorem m7 {α:Type}:∀ (l:List α) (i:Nat),(l.eraseIdx i).length≤l.length
 | [],_=>Nat.le_refl _
 | _ :: _,0=>Nat.le_succ _
 | _ :: r,i + 1=>Nat.succ_le_succ (m7 r i)
theorem mV (its:List Value):∀ (k:Nat) (acc:List Value),
   List.foldl (fun x1 x2=>x1 ++ x2) acc.toArray (List.replicate k its.toArray)=(acc ++ (List.replicate k its).flatten).toArray
 | 0,acc=>by simp
 | k + 1,acc=>by
   have e:acc.toArray ++ its.toArray=(acc ++ its).toArray:=by simp
   have e2:(acc ++ its) ++ (List.replicate k its).flatten=acc ++ (List.replicate (k + 1) its).flatten:=by
     rw [List.replicate_succ,List.flatten_cons,List.append_assoc]
   rw [← e2,← mV its k (acc ++ its),← e,List.replicate_succ,List.foldl_cons]
section
variable {X:Cx} {pins:List (Addr × Obj)} {σ:St} {H:Hp} {s:Shared} {l b:Addr} {xs ys zs:List V}
theorem Inv.lset {its its':List Value} {n:Nat} {f:Array Value→Array Value} {t':Nat} (I:Inv X pins σ H s) (hH:H l=some (.lst xs))
   (e:s.heap.get? l=some { cls:=.type "list",data:=.seq its.toArray n }) (hf:f its.toArray=its'.toArray) (hv:Vals ys its') (hz:ys.length≤sizeLine) :
   Inv X pins σ (upd H l (.lst ys)) { s with heap:=s.heap.update l (Obj.mapSeq f),toks:=t' }:=by
 have q:=PySem.IsL.update e f
 rw [hf] at q
 refine I.write (x:=l) (e:=l) (by rw [hH]; exact trivial) (.inl rfl) (fun b' u hb hu=>(Heap.get?_update_other s.heap (Obj.mapSeq f) (Ne.symm hb)).trans hu) ⟨_,q⟩ ?_
 exact ⟨hz,its',_,hv,q⟩
theorem Inv.lnew {its:List Value} {t':Nat} (I:Inv X pins σ H s) (hv:Vals ys its) (hz:ys.length≤sizeLine) :
   Inv X pins σ (upd H s.heap.objs.size (.lst ys)) { s with heap:=s.heap.push { cls:=.type "list",data:=.seq its.toArray },toks:=t' } :=
 I.laid (fun _ _ q=>Heap.get?_push_of_some _ q) (Nat.le_refl _) ⟨hz,its,0,hv,Heap.get?_push_size _ rfl⟩
theorem Inv.fresh (I:Inv X pins σ H s):H s.heap.objs.size=none:=I.hok.fresh (Nat.le_refl _)
theorem Inv.lstM (I:Inv X pins σ H s) (hH:H l=some (.lst xs)):xs.length≤sizeLine∧∃ (its:List Value) (n:Nat),Vals xs its∧xs.length=its.length∧s.heap.get? l=some { cls:=.type "list",data:=.seq its.toArray n }:=by
 obtain ⟨z,its,n,r,e⟩:=I.hok l _ hH
 exact ⟨z,its,n,r,r.length,e⟩
theorem vK {n:Nat} (h:n≤sizeLine):Builtin.List.listTooLong n=false:=by
 unfold Builtin.List.listTooLong
 exact decide_eq_false (by omega)
end
section
variable {X:Cx}
def rAppend:V→List V→Hp→VK→Prop:=fun x vs H Q=>∃ l xs y,x=.ref l∧vs=[y]∧H l=some (.lst xs)∧xs.length < sizeLine∧Q .non (upd H l (.lst (xs ++ [y])))
theorem cq:MtM X "list.append" rAppend:=by
 intro pins s σ H x vs v us Q I rx rv h
 obtain ⟨l,xs,y,rfl,rfl,hH,hz,q⟩:=h
 cases rx
 obtain ⟨u,rfl,ru⟩:=rv.one
 obtain ⟨z,its,n,r,hl,e⟩:=I.lstM hH
 refine call_meets F.slot_list_append ⟨_,e,rfl⟩ F.entry_list_append (F.args_list_append_2 _ _) (PySem.list_append l its.toArray n u (by rw [List.size_toArray]; omega)) ⟨e,?_⟩
 refine ⟨.non,_,I.lset (its':=its ++ [u]) hH e (by simp) (r.append (.cons ru .nil)) ?_,rfl,q⟩
 rw [List.length_append,List.length_singleton]
 omega
def rPop:V→List V→Hp→VK→Prop:=fun x vs H Q=>∃ l xs y,x=.ref l∧vs=[]∧H l=some (.lst xs)∧xs[xs.length - 1]?=some y∧Q y (upd H l (.lst xs.dropLast))
theorem pE:MtM X "list.pop" rPop:=by
 intro pins s σ H x vs v us Q I rx rv h
 obtain ⟨l,xs,y,rfl,rfl,hH,hy,q⟩:=h
 cases rx
 have hus:=rv.zero
 subst hus
 obtain ⟨z,its,n,r,hl,e⟩:=I.lstM hH
 obtain ⟨u,hu,ru⟩:=r.get hy
 have hy':its.toArray[its.toArray.size - 1]?=some u:=by
   show its.toArray[its.length - 1]?=some u
   rw [← Array.getElem?_toList,← hl]
   exact hu
 refine call_meets F.slot_list_pop ⟨_,e,rfl⟩ F.entry_list_pop (F.args_list_pop_1 _) (MeetsSeq.list_pop_last l its.toArray n u hy' (by rw [List.size_toArray]; omega)) ⟨e,?_⟩
 refine ⟨y,_,I.lset (its':=its.dropLast) hH e ?_ r.dropLast ?_,ru,q⟩
 · show its.toArray.eraseIdxIfInBounds (its.toArray.size - 1)=its.dropLast.toArray
   rw [List.size_toArray,List.eraseIdxIfInBounds_toArray,qL]
 · rw [List.length_dropLast]
   omega
def rPopAt:V→List V→Hp→VK→Prop:=fun x vs H Q=>∃ l xs i k y,x=.ref l∧vs=[.int i]∧H l=some (.lst xs)∧-(2 ^ 63)≤i∧i < 2 ^ 63∧seqIndex? i xs.length=some k∧xs[k]?=some y∧Q y (upd H l (.lst (xs.eraseIdx k)))
theorem xy:MtM X "list.pop" rPopAt:=by
 intro pins s σ H x vs v us Q I rx rv h
 obtain ⟨l,xs,i,k,y,rfl,rfl,hH,h1,h2,hk,hy,q⟩:=h
 cases rx
 obtain ⟨u,rfl,ru⟩:=rv.one
 obtain ⟨t,rfl⟩:=ru
 obtain ⟨z,its,n,r,hl,e⟩:=I.lstM hH
 obtain ⟨w,hw,rw'⟩:=r.get hy
 refine call_meets F.slot_list_pop ⟨_,e,rfl⟩ F.entry_list_pop (F.args_list_pop_2 _ _)
   (MeetsSeq.list_pop_at l its.toArray n i t k w (fitsIndex_both h1 h2) (by rw [List.size_toArray,← hl]; exact hk) (by rw [← Array.getElem?_toList]; exact hw) (by rw [List.size_toArray]; omega)) ⟨e,?_⟩
 refine ⟨y,_,I.lset (its':=its.eraseIdx k) hH e ?_ (r.eraseIdx k) ?_,rw',q⟩
 · show its.toArray.eraseIdxIfInBounds k=(its.eraseIdx k).toArray
   rw [List.eraseIdxIfInBounds_toArray]
 · have:=m7 xs k
   omega
def rCat:R2:=fun x y H Q=>∃ l b xs zs,x=.ref l∧y=.ref b∧H l=some (.lst xs)∧H b=some (.lst zs)∧xs.length + zs.length≤sizeLine∧∀ p,H p=none→Q (.ref p) (upd H p (.lst (xs ++ zs)))
theorem sB:OpR X (binaryOp .Add) rCat:=by
 intro pins s σ H x y v u Q I rx ry h
 obtain ⟨l,b,xs,zs,rfl,rfl,hH,hB,hz,q⟩:=h
 cases rx
 cases ry
 obtain ⟨z,its,n,r,hl,e⟩:=I.lstM hH
 obtain ⟨z2,its2,n2,r2,hl2,e2⟩:=I.lstM hB
 refine PySem.P.add_list e e2 ?_ (by rw [List.size_toArray,List.size_toArray]; omega)
 have ea:its.toArray ++ its2.toArray=(its ++ its2).toArray:=by simp
 rw [ea]
 exact ⟨.ref _,_,I.lnew (t':=s.toks) (r.append r2) (by rw [List.length_append]; omega),rfl,q _ I.fresh⟩
def rRep:R2:=fun x y H Q=>∃ l k xs,x=.ref l∧y=.int k∧H l=some (.lst xs)∧-(2 ^ 63)≤k∧k < 2 ^ 63∧xs.length * k.toNat≤sizeLine ∧
 ∀ p,H p=none→Q (.ref p) (upd H p (.lst (List.replicate k.toNat xs).flatten))
theorem zf {α:Type} (xs:List α) (k:Nat):(List.replicate k xs).flatten.length=k * xs.length:=by
 induction k with
 | zero=>simp
 | succ k ih=>rw [List.replicate_succ,List.flatten_cons,List.length_append,ih,Nat.succ_mul,Nat.add_comm]
theorem ph:OpR X (binaryOp .Mult) rRep:=by
 intro pins s σ H x y v u Q I rx ry h
 obtain ⟨l,k,xs,rfl,rfl,hH,h1,h2,hz,q⟩:=h
 cases rx
 obtain ⟨t,rfl⟩:=ry
 obtain ⟨z,its,n,r,hl,e⟩:=I.lstM hH
 have hlen:its.toArray.size * k.toNat≤sizeLine:=by rw [List.size_toArray,← hl]; exact hz
 have hcap:¬ its.toArray.size * k.toNat > (2 ^ 63 - 1) / 8:=by
   have:(sizeLine:Nat)≤(2 ^ 63 - 1) / 8:=by decide
   omega
 have hfit:¬ (!Builtin.List.listFitsIndex k)=true:=by
   rw [fitsIndex_both h1 h2]
   exact Bool.false_ne_true
 have hlong:¬ Builtin.List.listTooLong (its.toArray.size * k.toNat)=true:=by
   rw [vK hlen]
   exact Bool.false_ne_true
 have hnew:List.foldl (fun x1 x2=>x1 ++ x2) #[] (List.replicate (if its.toArray.isEmpty=true then 0 else k.toNat) its.toArray)=(List.replicate k.toNat its).flatten.toArray:=by
   have f0:∀ m:Nat,List.foldl (fun x1 x2=>x1 ++ x2) #[] (List.replicate m its.toArray)=(List.replicate m its).flatten.toArray:=fun m=>by
     have:=mV its m []
     rw [List.nil_append] at this
     exact this
   rw [f0]
   cases its with
   | nil=>simp
   | cons a r'=>rw [if_neg (by simp)]
 refine wpAny_binaryOp_repeat_ref (T:="list") (U:="int") (by decide) ⟨_,e,rfl⟩ (fun s'=>typeIs_int s' k t) noFill_list_mul F.fills_int_mul F.slot_int_rmul repeat_list F.slot_int_index.lookup
   (call_meets F.slot_int_rmul (typeIs_int s k t) F.entry_int_rmul (F.args_int_rmul_2 _ _) (int___rmul___int_list k t l its.toArray n)
     ⟨e,rfl,⟨_,e,rfl⟩,call_meets F.slot_list_mul ⟨_,e,rfl⟩ F.entry_list_mul (F.args_list_mul_2 _ _) (AutoListH.list___mul___list_int_3 l its.toArray n k t hfit hcap hlong) ⟨e,?_⟩⟩)
 rw [hnew]
 exact ⟨.ref _,_,I.lnew (t':=s.toks) (r.rep k.toNat) (by rw [zf,Nat.mul_comm]; exact hz),rfl,q _ I.fresh⟩
end
section
variable {prog:Program} {w:World} {A:Around} {E:Value→Shared→Prop} {s:Shared}
set_option maxRecDepth 100000 in
end
section
variable {X:Cx}
end
end L2
namespace L2
open PySem PySem.Spec PyProof.Rows
section
variable {κ:Type} [DecidableEq κ]
def eY (kvs:List (κ × V)) (k:κ):Option V:=(kvs.find? fun kv=>decide (kv.1=k)).map (·.2)
def dl (kvs:List (κ × V)) (k:κ) (v:V):List (κ × V) :=
 if (kvs.any fun kv=>decide (kv.1=k))=true then kvs.map (fun kv=>if kv.1=k then (kv.1,v) else kv) else kvs ++ [(k,v)]
theorem ii {p:κ × V} {r:List (κ × V)} {k:κ} (e:p.1=k):eY (p :: r) k=some p.2:=by simp [eY,List.find?_cons,e]
theorem im {p:κ × V} {r:List (κ × V)} {k:κ} (e:¬ p.1=k):eY (p :: r) k=eY r k:=by simp [eY,List.find?_cons,e]
theorem kN (k:κ):∀ kvs:List (κ × V),(kvs.any fun kv=>decide (kv.1=k))=(eY kvs k).isSome
 | []=>rfl
 | p :: r=>by
   rw [List.any_cons]
   by_cases e:p.1=k
   · simp only [ii e,decide_eq_true e,Bool.true_or,Option.isSome_some]
   · rw [im e,decide_eq_false e,Bool.false_or]; exact kN k r
theorem gI (kvs:List (κ × V)) (k:κ) (v:V):(dl kvs k v).length≤kvs.length + 1:=by
 unfold dl
 split
 · rw [List.length_map]; omega
 · rw [List.length_append,List.length_cons,List.length_nil]; omega
theorem uP {kvs:List (κ × V)} {k:κ} (v:V) (h:eY kvs k=none):dl kvs k v=kvs ++ [(k,v)]:=by
 unfold dl
 rw [kN,h]
 exact if_neg (by decide)
theorem RelO.isSome_eq {o:Option V} {u:Option Value} (r:RelO o u):o.isSome=u.isSome:=by
 cases o with
 | none=>cases u with
   | none=>rfl
   | some _=>exact (show False from r).elim
 | some _=>cases u with
   | none=>exact (show False from r).elim
   | some _=>rfl
theorem KV.val {kvs:List (κ × V)} {vs:List (κ × Value)} (r:KV kvs vs) (k:κ):RelO (eY kvs k) (valueAt vs k):=by
 unfold KV at r
 induction r with
 | nil=>exact True.intro
 | @cons p q ps qs h t ih =>
   obtain ⟨h1,h2⟩:=h
   by_cases e:p.1=k
   · have e':q.1=k:=h1.symm.trans e
     have b:valueAt (q :: qs) k=some q.2:=by simp [valueAt,List.find?_cons,e']
     rw [ii e,b]; exact h2
   · have e':¬ q.1=k:=fun z=>e (h1.trans z)
     have b:valueAt (q :: qs) k=valueAt qs k:=by simp [valueAt,List.find?_cons,e']
     rw [im e,b]; exact ih
theorem KV.any {kvs:List (κ × V)} {vs:List (κ × Value)} (r:KV kvs vs) (k:κ):(kvs.any fun kv=>decide (kv.1=k))=vs.any fun kv=>decide (kv.1=k):=by
 unfold KV at r
 induction r with
 | nil=>rfl
 | cons h t ih=>rw [List.any_cons,List.any_cons,ih,h.1]
theorem KV.repl {kvs:List (κ × V)} {vs:List (κ × Value)} (r:KV kvs vs) (k:κ) {y:V} {u:Value} (ry:RelV y u) :
   KV (kvs.map fun kv=>if kv.1=k then (kv.1,y) else kv) (vs.map fun kv=>if kv.1=k then (kv.1,u) else kv):=by
 unfold KV at r ⊢
 induction r with
 | nil=>exact .nil
 | @cons p q ps qs h t ih =>
   rw [List.map_cons,List.map_cons]
   refine .cons ?_ ih
   obtain ⟨h1,h2⟩:=h
   by_cases e:p.1=k
   · rw [if_pos e,if_pos (h1.symm.trans e)]; exact ⟨h1,ry⟩
   · rw [if_neg e,if_neg (fun z=>e (h1.trans z))]; exact ⟨h1,h2⟩
theorem KV.put {kvs:List (κ × V)} {vs:List (κ × Value)} (r:KV kvs vs) (k:κ) {y:V} {u:Value} (ry:RelV y u):KV (dl kvs k y) (stored vs k u):=by
 unfold dl stored
 rw [r.any k]
 by_cases e:(vs.any fun kv=>decide (kv.1=k))=true
 · rw [if_pos e,if_pos e]; exact r.repl k ry
 · rw [if_neg e,if_neg e]; exact Paired.snoc r ⟨rfl,ry⟩
theorem KV.length {kvs:List (κ × V)} {vs:List (κ × Value)} (r:KV kvs vs):kvs.length=vs.length:=Paired.length r
end
theorem nZ {P:Program} {w:World} {k:Key} {u:Value} (r:RelV (kV k) u):(ck P w).is k u=true:=by
 cases k with
 | inl i=>obtain ⟨t,e⟩:=(show ∃ t,u=Value.int i t from r); subst e; exact qf P w i t
 | inr x=>obtain ⟨t,e⟩:=(show ∃ t,u=Value.str x t from r); subst e; exact p9 P w x t
theorem mW {P:Program} {w:World}:∀ {ks:List Key} {us:List Value},Vals (ks.map kV) us→ItemsAre (ck P w) ks us
 | [],_,r=>by rw [List.map_nil] at r; cases r; exact .nil
 | k :: ks,_,r=>by
   rw [List.map_cons] at r
   cases r with
   | cons h t=>exact .cons (nZ h) (mW t)
abbrev KT (H:Hp):List (List Key × V)→List (List Key × Addr × Value)→Prop:=Paired fun p q=>p.1=q.1∧H q.2.1=some (.tup (p.1.map kV))∧RelV p.2 q.2.2
theorem KT.val {H:Hp} {kvs:List (List Key × V)} {xs:List (List Key × Addr × Value)} (r:KT H kvs xs) (k:List Key):RelO (eY kvs k) ((atKey xs k).map (·.2)):=by
 induction r with
 | nil=>exact True.intro
 | @cons p q ps qs h t ih =>
   obtain ⟨h1,_,h2⟩:=h
   by_cases e:p.1=k
   · have e':q.1=k:=h1.symm.trans e
     have b:atKey (q :: qs) k=some q.2:=by simp [atKey,List.find?_cons,e']
     rw [ii e,b]; exact h2
   · have e':¬ q.1=k:=fun z=>e (h1.trans z)
     have b:atKey (q :: qs) k=atKey qs k:=by simp [atKey,List.find?_cons,e']
     rw [im e,b]; exact ih
theorem KT.repl {H:Hp} {kvs:List (List Key × V)} {xs:List (List Key × Addr × Value)} (r:KT H kvs xs) (k:List Key) {y:V} {u:Value} (ry:RelV y u) :
   KT H (kvs.map fun kv=>if kv.1=k then (kv.1,y) else kv) (xs.map (putAt k u)):=by
 induction r with
 | nil=>exact .nil
 | @cons p q ps qs h t ih =>
   rw [List.map_cons,List.map_cons]
   refine .cons ?_ ih
   obtain ⟨h1,h2,h3⟩:=h
   unfold putAt
   by_cases e:p.1=k
   · rw [if_pos e,if_pos (h1.symm.trans e)]; exact ⟨h1,h2,ry⟩
   · rw [if_neg e,if_neg (fun z=>e (h1.trans z))]; exact ⟨h1,h2,h3⟩
theorem KT.put {H:Hp} {kvs:List (List Key × V)} {xs:List (List Key × Addr × Value)} (r:KT H kvs xs) (k:List Key) {b:Addr} {y:V} {u:Value} (hb:H b=some (.tup (k.map kV))) (ry:RelV y u) :
   KT H (dl kvs k y) (storedH xs k b u):=by
 have e:(kvs.any fun kv=>decide (kv.1=k))=(atKey xs k).isSome:=by
   rw [kN,(r.val k).isSome_eq,Option.isSome_map]
 unfold dl storedH
 rw [e]
 by_cases q:(atKey xs k).isSome=true
 · rw [if_pos q,if_pos q]; exact r.repl k ry
 · rw [if_neg q,if_neg q]; exact Paired.snoc r ⟨rfl,hb,ry⟩
theorem KT.keeps {H H':Hp} {kvs:List (List Key × V)} {xs:List (List Key × Addr × Value)} (r:KT H kvs xs) (ht:∀ b ys,H b=some (.tup ys)→H' b=some (.tup ys)):KT H' kvs xs :=
 Paired.mapP r fun _ _ z=>⟨z.1,ht _ _ z.2.1,z.2.2⟩
section
variable {P:Program} {w:World} {H:Hp} {h:Heap} {a:Addr}
theorem yD {u:HO} (ok:HOk P w H h) (e:Rd H a u):ObjOk P w H h a u:=e.ok ok
theorem qR {kvs:List (Key × V)} (ok:HOk P w H h) (e:Rd H a (.dK kvs)):kvs.length≤sizeLine∧(a == sysModules)=false∧∃ vs,KV kvs vs∧h.DictOf (ck P w) a vs :=
 show ObjOk P w H h a (.dK kvs) from yD ok e
theorem yx {kvs:List (Key × V)} (ok:HOk P w H h) (e:H a=some (.dK kvs)):kvs.length≤sizeLine∧(a == sysModules)=false∧∃ vs,KV kvs vs∧h.DictOf (ck P w) a vs:=qR ok (.inl e)
theorem pQ {ks:List Key} (ok:HOk P w H h) (e:H a=some (.tup (ks.map kV))):(tupleKind (ck P w)).is h ks a:=by
 obtain ⟨_,its,r,o,h1,h2,n,h3⟩:=(show ObjOk P w H h a (.tup (ks.map kV)) from ok a _ e)
 exact ⟨o,its.toArray,n,h1,h2,h3,by simpa using mW r⟩
theorem yp {kvs:List (List Key × V)} (ok:HOk P w H h) (e:Rd H a (.dT kvs)):kvs.length≤sizeLine∧(a == sysModules)=false ∧
   ∃ xs,KT H kvs xs∧h.DictOfH (tupleKind (ck P w)) a xs:=by
 obtain ⟨z,y,xs,r,o,es,ep,h1,h2,h3,h4,h5⟩:=(show ObjOk P w H h a (.dT kvs) from yD ok e)
 refine ⟨z,y,xs,r,o,es,ep,h1,h2,h3,h4,fun x hx=>?_,h5⟩
 have all:∀ {l:List (List Key × V)} {m:List (List Key × Addr × Value)},KT H l m→∀ x∈m,(tupleKind (ck P w)).is h x.1 x.2.1:=by
   intro l m q
   induction q with
   | nil=>intro x hx; exact nomatch hx
   | @cons p q ps qs hq t ih =>
     intro x hx
     rcases List.mem_cons.mp hx with e | hx
     · subst e
       exact pQ ok (by rw [← hq.1]; exact hq.2.1)
     · exact ih x hx
 exact all r x hx
theorem A3 {kvs:List (List Key × V)} (ok:HOk P w H h) (e:H a=some (.dT kvs)):kvs.length≤sizeLine∧(a == sysModules)=false ∧
   ∃ xs,KT H kvs xs∧h.DictOfH (tupleKind (ck P w)) a xs:=yp ok (.inl e)
end
def DGet (H:Hp) (a:Addr) (y:V) (r:Option V):Prop :=
 (∃ kvs k,Rd H a (.dK kvs)∧y=kV k∧r=eY kvs k)∨∃ kvs k b,Rd H a (.dT kvs)∧y=.ref b∧H b=some (.tup (k.map kV))∧r=eY kvs k
def DPut (H:Hp) (a:Addr) (y v:V) (H':Hp):Prop :=
 (∃ kvs k,H a=some (.dK kvs)∧y=kV k∧kvs.length < sizeLine∧H'=upd H a (.dK (dl kvs k v))) ∨
 ∃ kvs k b,H a=some (.dT kvs)∧y=.ref b∧H b=some (.tup (k.map kV))∧kvs.length < sizeLine∧H'=upd H a (.dT (dl kvs k v))
theorem DGet.k {H:Hp} {a:Addr} {kvs:List (Key × V)} {k:Key} (e:H a=some (.dK kvs)):DGet H a (kV k) (eY kvs k):=.inl ⟨kvs,k,.inl e,rfl,rfl⟩
theorem DPut.k {H:Hp} {a:Addr} {kvs:List (Key × V)} {k:Key} {v:V} (e:H a=some (.dK kvs)) (hl:kvs.length < sizeLine):DPut H a (kV k) v (upd H a (.dK (dl kvs k v))):=.inl ⟨kvs,k,e,rfl,hl,rfl⟩
section
variable {X:Cx} {pins:List (Addr × Obj)} {σ:St} {H:Hp} {s:Shared} {a:Addr} {y v:V} {u r:Value} {o:Option V} {A:Around} {E:Value→Shared→Prop}
theorem Inv.big (I:Inv X pins σ H s):sysModules < s.heap.objs.size:=by
 have h:mainGlobals < s.heap.objs.size:=(I.mod.glob.keeps I.bk).lt
 exact Nat.lt_trans (by decide) h
theorem yP {Q:Value→Shared→Prop} (hu:A.units + 1 < cLine) (I:Inv X pins σ H s) (g:DGet H a y o) (ry:RelV y u) (h:∀ s',Inv X pins σ H s'→Q (.bool (!o.isSome)) s') :
   wpAny (model X.prog X.w) A (compareOp .NotIn u (.ref a)) Q E s:=by
 rcases g with ⟨kvs,k,e,ey,l⟩ | ⟨kvs,k,b,e,ey,eb,l⟩
 · subst ey
   obtain ⟨z,hd,vs,rel,dd⟩:=qR I.hok e
   refine wpAny_notIn_of (nZ ry) hd dd.mapOf ?_
   rw [← (rel.val k).isSome_eq,← l]
   exact h _ (I.tok _)
 · subst ey
   cases (show u=Value.ref b from ry)
   obtain ⟨z,hd,xs,rel,dd⟩:=yp I.hok e
   refine wpAny_notIn_heap (tupleKind_room_in1 hu) (pQ I.hok eb) hd dd ?_
   have q:=(rel.val k).isSome_eq
   rw [Option.isSome_map] at q
   rw [← q,← l]
   exact h _ (I.tok _)
theorem mO {h':Heap} {t':Nat} {ob:HO} (I:Inv X pins σ H s) (mu:Mut (H a)) (hs:Heap.SameBut a s.heap h') (he:∃ q,h'.get? a=some q) (new:ObjOk X.prog X.w (upd H a ob) h' a ob) :
   Inv X pins σ (upd H a ob) { s with heap:=h',toks:=t' } :=
 I.write (x:=a) (e:=a) mu (.inl rfl) (fun b q hb z=>(hs.2 b hb).trans z) he new
theorem uk {P:Program} {w:World} {H':Hp} {h':Heap} {kvs:List (Key × V)} {vs:List (Key × Value)} (z:kvs.length≤sizeLine) (hd:(a == sysModules)=false) (rel:KV kvs vs) (dd:h'.DictOf (ck P w) a vs) :
   ObjOk P w H' h' a (.dK kvs):=⟨z,hd,vs,rel,dd⟩
theorem uh {H':Hp} {Q:Unit→Shared→Prop} (hu:A.units + 1 < cLine) (I:Inv X pins σ H s) (g:DPut H a y v H') (ry:RelV y u) (rv:RelV v r) (h:∀ s',Inv X pins σ H' s'→Q () s') :
   wpAny (model X.prog X.w) A (setItem (.ref a) u r) Q E s:=by
 rcases g with ⟨kvs,k,e,ey,l,eH⟩ | ⟨kvs,k,b,e,ey,eb,l,eH⟩
 · subst ey eH
   obtain ⟨z,hd,vs,rel,dd⟩:=yx I.hok e
   have hz:vs.length≤sizeLine:=by rw [← rel.length]; exact z
   have hl:(dl kvs k v).length≤sizeLine:=by have:=gI kvs k v; omega
   refine wpAny_setItem_pairs (hsz:=hz) (nZ ry) dd fun h' dd' hs=>h _ ?_
   have he:∃ q,h'.get? a=some q:=let ⟨q,_,_,hq,_⟩:=dd'; ⟨q,hq⟩
   exact mO I (by rw [e]; exact True.intro) hs he (uk hl hd (rel.put k rv) dd')
 · subst ey eH
   cases (show u=Value.ref b from ry)
   obtain ⟨z,hd,xs,rel,dd⟩:=A3 I.hok e
   have hz:xs.length≤sizeLine:=by rw [← Paired.length rel]; exact z
   have hl:(dl kvs k v).length≤sizeLine:=by have:=gI kvs k v; omega
   refine wpAny_setItem_heap (hsz:=hz) (tupleKind_room_in1 hu) (pQ I.hok eb) dd fun h' dd' hs=>h _ ?_
   obtain ⟨q,es,ep,hq,h2,h3,h4,_,h5⟩:=dd'
   refine mO I (by rw [e]; exact True.intro) hs ⟨q,hq⟩ ⟨hl,hd,_,(rel.put k eb rv).keeps fun c ys ec=>?_,q,es,ep,hq,h2,h3,h4,h5⟩
   rw [ap (eu ec e (fun z=>nomatch z))]
   exact ec
end
section
variable {X:Cx} {pins:List (Addr × Obj)} {σ:St} {H:Hp} {s:Shared} {a:Addr} {kvs:List (Key × V)} {k:Key} {u:Value} {A:Around} {E:Value→Shared→Prop}
theorem A7 {Q:Value→Shared→Prop} (I:Inv X pins σ H s) (e:Rd H a (.dK kvs)) (h:∀ t s',Inv X pins σ H s'→Q (.int kvs.length t) s'):wpAny (model X.prog X.w) A (call (.builtin "len") [.ref a]) Q E s:=by
 obtain ⟨z,hd,vs,rel,dd⟩:=qR I.hok e
 refine call_len_dict hd dd (by rw [← rel.length]; rw [sizeLine_eq] at z; omega) ?_
 rw [← rel.length]
 exact h _ _ (I.tok _)
end
def yC (td ty:TE):TE:=fun σ H Q=>td σ H fun x H1=>ty σ H1 fun y H2=>∃ a v,x=.ref a∧DGet H2 a y (some v)∧Q v H2
def AD (ty td:TE):TE:=fun σ H Q=>ty σ H fun y H1=>td σ H1 fun x H2=>∃ a o,x=.ref a∧DGet H2 a y o∧Q (.bl o.isSome) H2
def mP (ty td:TE):TE:=fun σ H Q=>ty σ H fun y H1=>td σ H1 fun x H2=>∃ a o,x=.ref a∧DGet H2 a y o∧Q (.bl (!o.isSome)) H2
def sg (td ty tv:TE):TS:=fun D σ H=>tv σ H fun v H1=>td σ H1 fun x H2=>ty σ H2 fun y H3=>∃ a H4,x=.ref a∧DPut H3 a y v H4∧D.nx σ H4
section
variable {X:Cx} {o i e value:Expr} {pos pos' tpos:Pos} {td ty tv:TE}
theorem ua (hu:X.A.units + 1 < cLine) (hi:PE X i ty) (ho:PE X o td):PC X .NotIn i o (mP ty td):=by
 intro pins s σ H Q I h
 refine bj (hi pins s σ H _ I h) fun iv s1 y H1 I1 ry q1=>bj (ho pins s1 σ H1 _ I1 q1) fun u s2 x H2 I2 rx ⟨a,ov,ex,g,q2⟩=>?_
 subst ex
 obtain rfl:u=Value.ref a:=rx
 exact yP hu I2 g ry fun s3 I3=>⟨.bl (!ov.isSome),H2,I3,rfl,q2⟩
theorem yZ (hu:X.A.units + 1 < cLine) (ho:PE X o td) (hi:PE X i ty) (hv:PE X value tv) (hs:swapsWith value (some (.Subscript o i pos')) pos.line X.env=pure false) :
   PS X (.Assign [.Subscript o i pos'] value pos) (sg td ty tv):=by
 intro pins s σ H D I h
 refine wpAny_Assign_Subscript (bj (hv pins s σ H _ I h) fun r s1 v H1 I1 rv q1=>bj (ho pins s1 σ H1 _ I1 q1) fun u s2 x H2 I2 rx q2=>bj (hi pins s2 σ H2 _ I2 q2) fun iv s3 y H3 I3 ry ⟨a,H4,ex,g,q3⟩=>?_) hs
 subst ex
 obtain rfl:u=Value.ref a:=rx
 exact uh hu I3 g ry rv fun s4 I4=>⟨σ,H4,I4,q3⟩
end
theorem uw {P:Program} {w:World} {H:Hp} (h:Heap) (hb:sysModules < h.objs.size):ObjOk P w H (h.push { cls:=.type "dict",data:=.dict #[] }) h.objs.size (.dK []) :=
 ⟨Nat.zero_le _,beq_eq_false_iff_ne.mpr (Ne.symm (Nat.ne_of_lt hb)),[],.nil,Heap.DictOf.new h⟩
def sZ:TE:=fun _ H Q=>∀ p,H p=none→Q (.ref p) (upd H p (.dK []))
def sD:TE:=fun _ H Q=>∀ p,H p=none→Q (.ref p) (upd H p (.dT []))
section
variable {X:Cx} {pos:Pos}
end
def gU:List (TE × TE)→St→Hp→(List (V × V)→Hp→Prop)→Prop
 | [],_,H,Q=>Q [] H
 | (tk,tv) :: r,σ,H,Q=>tk σ H fun x H1=>tv σ H1 fun y H2=>gU r σ H2 fun ps H3=>Q ((x,y) :: ps) H3
abbrev VV:List (V × V)→List (Value × Value)→Prop:=Paired fun p q=>RelV p.1 q.1∧RelV p.2 q.2
def PPs (X:Cx) (pos:Pos) (keys:List (Option Expr)) (values:List Expr) (trs:List (TE × TE)):Prop :=
 ∀ (pins:List (Addr × Obj)) (s:Shared) (σ:St) (H:Hp) (Q:List (V × V)→Hp→Prop),Inv X pins σ H s→gU trs σ H Q →
   wpAny (model X.prog X.w) X.A (evalPairs (pairTrees keys values X.env pos)) (fun vs s'=>∃ ps H',Inv X pins σ H' s'∧VV ps vs∧Q ps H') X.xe s
theorem yW {X:Cx} {pos:Pos}:PPs X pos [] [] []:=fun pins s σ H Q I h=>pairTrees_nil_walk ⟨[],H,I,.nil,h⟩
theorem xM {X:Cx} {pos:Pos} {k v:Expr} {ks:List (Option Expr)} {vs:List Expr} {tk tv:TE} {trs:List (TE × TE)} (hk:PE X k tk) (hv:PE X v tv) (hr:PPs X pos ks vs trs) :
   PPs X pos (some k :: ks) (v :: vs) ((tk,tv) :: trs):=fun pins s σ H Q I h =>
 pairTrees_cons_walk (bj (hk pins s σ H _ I h) fun u s1 x H1 I1 rx q1=>bj (hv pins s1 σ H1 _ I1 q1) fun w2 s2 y H2 I2 ry q2 =>
   thn (hr pins s2 σ H2 _ I2 q2) fun ws s3 ⟨ps,H3,I3,rel,q3⟩=>⟨(x,y) :: ps,H3,I3,.cons ⟨rx,ry⟩ rel,q3⟩)
def gY (kvs more:List (Key × V)):List (Key × V):=more.foldl (fun acc kv=>dl acc kv.1 kv.2) kvs
theorem KV.merge:∀ {more:List (Key × V)} {rs:List (Key × Value)} {kvs:List (Key × V)} {vs:List (Key × Value)},KV more rs→KV kvs vs→KV (gY kvs more) (merged vs rs):=by
 intro more rs kvs vs r
 unfold KV at r
 induction r generalizing kvs vs with
 | nil=>intro q; exact q
 | @cons p q ps qs h t ih =>
   intro r0
   have e:KV (dl kvs p.1 p.2) (stored vs q.1 q.2):=by
     have:=r0.put p.1 h.2
     rw [← h.1]; exact this
   exact ih e
theorem iI:∀ (more kvs:List (Key × V)),(gY kvs more).length≤kvs.length + more.length
 | [],kvs=>by show kvs.length≤kvs.length + 0; omega
 | p :: r,kvs=>by
   have h1:=iI r (dl kvs p.1 p.2)
   have h2:=gI kvs p.1 p.2
   show (gY (dl kvs p.1 p.2) r).length≤_
   rw [List.length_cons]; omega
theorem lH {P:Program} {w:World}:∀ {kvs:List (Key × V)} {ws:List (Value × Value)},VV (kvs.map fun kv=>(kV kv.1,kv.2)) ws→∃ rs,Carries (ck P w) ws rs∧KV kvs rs
 | [],_,r=>by rw [List.map_nil] at r; cases r; exact ⟨[],True.intro,.nil⟩
 | p :: kvs,_,r=>by
   rw [List.map_cons] at r
   cases r with
   | @cons a b as bs h t =>
     obtain ⟨rs,c,q⟩:=lH (P:=P) (w:=w) t
     obtain ⟨b1,b2⟩:=b
     exact ⟨(p.1,b2) :: rs,⟨nZ h.1,rfl,c⟩,.cons ⟨rfl,h.2⟩ q⟩
def rV (trs:List (TE × TE)):TE:=fun σ H Q=>∀ p,H p=none→gU trs σ (upd H p (.dK [])) fun ps H2=>H2 p=some (.dK [])∧∃ kvs:List (Key × V),ps=kvs.map (fun kv=>(kV kv.1,kv.2))∧kvs.length≤15∧Q (.ref p) (upd H2 p (.dK (gY [] kvs)))
theorem yI {X:Cx} {pos:Pos} {keys:List (Option Expr)} {values:List Expr} {trs:List (TE × TE)} (h:PPs X pos keys values trs) (hall:keys.all (·.isSome)=true) (hl:keys.length=values.length) (h0:keys≠[])
   (h15:keys.length≤15):PE X (.Dict keys values pos) (rV trs):=by
 intro pins s σ H Q I q
 have hn:=I.hok.fresh (Nat.le_refl s.heap.objs.size)
 have I1:=I.laid (a:=s.heap.objs.size) (o:=.dK []) (h':=s.heap.push { cls:=.type "dict",data:=.dict #[] }) (t':=s.toks) (fun _ _ q=>Heap.get?_push_of_some _ q) (Nat.le_refl _) (uw s.heap I.big)
 refine wpAny_Dict_walk (knd:=ck X.prog X.w) hall hl h0 h15 (thn (h pins _ σ _ _ I1 (q _ hn)) fun ws s2 ⟨ps,H2,I2,rel,e,kvs,ep,lk,q2⟩=>?_)
 subst ep
 obtain ⟨rs,c,rk⟩:=lH (P:=X.prog) (w:=X.w) rel
 obtain ⟨z,hd,vs0,r0,dd⟩:=yx I2.hok e
 cases r0
 refine ⟨rs,c,dd,fun h' dd' hs=>⟨.ref s.heap.objs.size,_,?_,rfl,q2⟩⟩
 have hz:(gY [] kvs).length≤sizeLine:=by
   have h1:=iI kvs []
   rw [List.length_nil] at h1
   rw [sizeLine_eq]; omega
 have he:∃ q,h'.get? s.heap.objs.size=some q:=let ⟨q,_,_,hq,_⟩:=dd'; ⟨q,hq⟩
 exact mO I2 (by rw [e]; exact True.intro) hs he (uk hz hd (rk.merge .nil) dd')
section
variable {X:Cx} {pins:List (Addr × Obj)} {σ:St} {H:Hp} {s:Shared} {a:Addr} {y d:V} {u r:Value} {o:Option V} {A:Around} {E:Value→Shared→Prop}
end
section
variable {X:Cx} {o e f:Expr} {apos cpos:Pos} {td ty tx:TE}
end
section
variable {X:Cx} {pins:List (Addr × Obj)} {σ:St} {H:Hp} {s:Shared} {a:Addr} {kvs:List (Key × V)} {A:Around} {E:Value→Shared→Prop}
end
section
variable {X:Cx} {pins:List (Addr × Obj)} {σ:St} {H:Hp} {s:Shared} {a:Addr} {y:V} {u:Value} {A:Around} {E:Value→Shared→Prop}
end
end L2
namespace Att
open PySem PySem.W PySem.Calls PyProof.Rows
theorem lz {P:Params} {h:Heap}:∀ (ns:List Int) (vs:List Value),WellAll P h vs (ns.map WData.int)→IntsAre vs ns:=by
 intro ns
 induction ns with
 | nil =>
   intro vs w
   rw [List.map_nil] at w
   cases w
   exact .nil
 | cons n ns ih =>
   intro vs w
   rw [List.map_cons] at w
   cases w with
   | cons a b =>
     cases a
     exact .cons _ _ (ih _ b)
theorem uf {l:OpenLaw} {n:Nat} (hn:l.most=some n) {P:Params} {h:Heap} {args:List WData} {vals:List Value}
   (hpre:l.row.toRowW.claim.pre args=true) (hwl:WellAll P h vals args) :
   ∃ a vs ns,vals=[Value.ref a]∧args=[WData.list (ns.map WData.int)]∧h.get? a=some { cls:=.type "list",data:=.seq vs.toArray }∧IntsAre vs ns∧ns.length≤n:=by
 have hsh:WShape.hasAll [] args [.list .int]=true:=(pre_splitW hpre).1
 have hc:l.pre.holds [] { args:=args }=true:=(pre_splitW hpre).2
 obtain ⟨d,r,rfl,h1,h2⟩:=hasAllW_cons hsh
 obtain rfl:=hasAllW_nil h2
 obtain ⟨xs,rfl,h3⟩:=hasW_list h1
 obtain ⟨ns,rfl⟩:=items_int h3
 have hlen:ns.length≤n:=by
   unfold OpenLaw.pre at hc
   have h4:(WTm.not (.lt (.lit (.int (n:Int))) (.len (.arg 0)))).holds [] { args:=[.list (ns.map .int)] }=true:=by
     have h4:=(holds_andW hc).1
     rw [hn] at h4
     exact h4
   have h5:=condW_of h4 (w_not (w_lt w_lit (w_len_list (w_arg rfl))))
   rw [List.length_map] at h5
   refine Nat.le_of_not_lt fun q=>?_
   have q':(n:Int) < ((ns.length:Nat):Int):=by omega
   first
     | (rw [decide_eq_true q'] at h5; exact absurd h5 (by decide))
     | (simp at h5; omega)
 cases hwl with
 | cons w1 w2 =>
   cases w2
   cases w1 with
   | list ho hall=>exact ⟨_,_,ns,rfl,rfl,ho,lz ns _ hall,hlen⟩
theorem sy (l:OpenLaw) (args:List WData):l.row.toRowW.claim.post args (.bool true) args=true :=
 postW_of (r:=l.row.toRowW) (X:=(true == true))
   (show WShape.has [] (.bool true) .bool=true by first | rfl | decide | simp [WShape.has,WShape.arms,WShape.armsAll])
   (show (WTm.eq .res (.lit (.bool true))).value [] { args:=args,res:=some (.bool true),after:=args }=some (.bool (true == true)) from w_eq_bool (w_res rfl) w_lit) rfl
theorem attach_call {l:OpenLaw} {n:Nat} {q:Program} {loose:List Str} {XP:(Str→Option Value)→Heap→Prop} {YP:World→Heap→Prop} {d:DefRec}
   (hn:l.most=some n) (hdf:d.params.defaults=[])
   (call:∀ (w:World) (s₀ s₁:Shared) (mg mb:Str→Option Value) (fa:Addr) (o:Obj) (pm cd doc:Value) (a:Addr) (vs:List Value) (ns:List Int),
     Ground q loose [] XP w s₀ mg mb s₁.heap→YP w s₁.heap →
     s₁.heap.get? fa=some o→o.data=.func (docDef d.name d.params d.body d.scope pm cd doc)→s₁.heap.CodeRec cd d.name→mg d.name=some (.ref fa) →
     s₁.heap.get? a=some { cls:=.type "list",data:=.seq vs.toArray }→IntsAre vs ns→ns.length≤n→s₁.gens=#[] →
     codeAny (model l.prog w) callerA (.call (.ref fa) ⟨[.ref a],[]⟩) (fun r s'=>r=.ok (.ret (.bool true))∧OldK s₁.heap s'.heap∧s'.os=s₁.os∧AllBare s'.gens) s₁) :
   WalkO q loose XP YP l.row.toRowW d [] (fun f vs=>PySem.call f vs):=by
 intro w s₀ s₁ mg mb G Y fa o pm cd doc dV kV ho hd hcd hD hmg hg args vals as hpre hlay hrd hwl hlo
 obtain rfl:dV=.none:=Dflts.none hD hdf
 obtain rfl:kV=.none:=Dflts.noKw hD
 obtain ⟨a,vs,ns,rfl,rfl,hobj,hints,hlen⟩:=uf hn hpre hwl
 refine enter_call (codeAny_mono (call w s₀ s₁ mg mb fa o pm cd doc a vs ns G Y ho (fd_plain hd) hcd hmg hobj hints hlen hg) fun r s' hq=>?_)
 obtain ⟨rfl,h2,h3,h4⟩:=hq
 exact ⟨.inl ⟨.bool true,.bool true,[],rfl,fun _=>rfl,.bool true,sy l _,fun _=>⟨List.Pairwise.nil,fun _ hm=>(nomatch hm)⟩⟩,h2,h3,h4⟩
section
variable {prog:Program} {w:World} {A:Around} {E:Value→Shared→Prop} {s:Shared} {K:Frag}
end
end Att
namespace L2
open PySem PySem.Spec PyProof.Rows
theorem m3:∀ {vs:List Value} {ns:List Int},IntsAre vs ns→Vals (ns.map V.int) vs
 | _,_,.nil=>.nil
 | _,_,.cons n t h=>.cons ⟨t,rfl⟩ (m3 h)
def vI (H:Hp):Prop:=∀ b,H b=none∨∃ o xs,H b=some (.frz o (.lst xs))
theorem uy {P:Program} {w:World} {K:PySem.W.Frag} {mg mb:Str→Option Value} {CX:CXT} {k:Nat} {fa a:Addr} {fd:FuncData} {x:Str} {sp:Sp} {s₁:Shared} {vs:List Value} {ns:List Int}
   (KX:K.In s₁.heap) (hns:s₁.heap.Ns mainGlobals mg) (hb:s₁.heap.Ns builtinsNs mb) (hbb:∀ x:Str,x≠"__name__"→mb x=bootBuiltins x) (hlim:s₁.heap.NoLimit) (hg:s₁.gens=#[])
   (ha:s₁.heap.get? a=some { cls:=.type "list",data:=.seq vs.toArray }) (hi:IntsAre vs ns) (hl:ns.length≤sizeLine) (hr:Room k callerA)
   (F:∀ base:Heap,K.In base→base.Ns mainGlobals mg→FnOk P w K mg base CX k fa fd [x] sp) (hbind:∀ (s:Shared) (u:Value),BindsTo s fd ⟨[u],[]⟩ [(x,u)])
   (hsp:∀ H:Hp,vI H→SqL K H a (ns.map V.int)→sp [.ref a] H (fun v _=>v=.bl true) fun _ _ _=>False)
   (hCX:∀ H e s',CX [] H s₁ (fun _ _ _=>False) e s'→False) :
   codeAny (model P w) callerA (.call (.ref fa) ⟨[.ref a],[]⟩) (fun r s'=>r=.ok (.ret (.bool true))∧OldK s₁.heap s'.heap∧s'.os=s₁.os∧AllBare s'.gens) s₁:=by
 have rv:=m3 hi
 have lenV:=hi.length
 have core:∀ H:Hp,vI H→SqL K H a (ns.map V.int)→HOk P w H s₁.heap→(∀ b,H b≠none→b=a)→(H a≠none→K.lookup a=none) →
     codeAny (model P w) callerA (.call (.ref fa) ⟨[.ref a],[]⟩) (fun r s'=>r=.ok (.ret (.bool true))∧OldK s₁.heap s'.heap∧s'.os=s₁.os∧AllBare s'.gens) s₁:=by
   intro H hO hS hok hA hK
   have base_of:∀ {b:Addr} {o:Obj},s₁.heap.get? b=some o→H b=none→(iz s₁.heap H).get? b=some o:=fun e n=>vZ e n
   have noA:∀ {b:Addr} {o:Obj} {es:Array DictEntry} {ep:Nat},s₁.heap.get? b=some o→o.data=.dict es ep→H b=none:=fun {b o es ep} e d=>by
     cases q:H b with
     | none=>rfl
     | some u =>
       have e':b=a:=hA b (by rw [q]; simp)
       subst e'
       rw [ha] at e; cases e
       have d':Data.seq vs.toArray _=Data.dict es ep:=d
       cases d'
   have nsK:∀ {b:Addr} {m:Str→Option Value},s₁.heap.Ns b m→(iz s₁.heap H).Ns b m:=fun {b m} ⟨o,es,ep,e,d,r⟩=>⟨o,es,ep,base_of e (noA e d),d,r⟩
   have hKb:K.In (iz s₁.heap H):=fun b o e=>base_of (KX b o e) (by
     cases q:H b with
     | none=>rfl
     | some u =>
       have e':b=a:=hA b (by rw [q]; simp)
       subst e'
       rw [hK (by rw [q]; simp)] at e; cases e)
   have hM:Mod K mg (iz s₁.heap H):=⟨hKb,nsK hns,⟨mb,nsK hb,hbb⟩,let ⟨mc,h1,h2⟩:=hlim; ⟨mc,nsK h1,h2⟩⟩
   have e0:Env0 P w K mg (iz s₁.heap H) callerA [] s₁ H:=⟨rfl,hM,fun b o e=>y8 e,Nat.le_of_eq (tM _ _),trivial,fun b hb=>absurd (show b∈([]:List Addr) from hb) (by simp),hok,.of_eq hg⟩
   refine codeAny_mono ((F _ hKb (nsK hns)).run callerA [] s₁ H ⟨[.ref a],[]⟩ [.ref a] [.ref a] _ _ hr e0 (hbind s₁ (.ref a)) (.cons rfl .nil) (hsp H hO hS)) fun r s' h=>?_
   cases r with
   | error e=>exact (hCX H e s' h).elim
   | ok fl =>
     cases fl with
     | next=>exact False.elim h
     | brk=>exact False.elim h
     | cont=>exact False.elim h
     | ret u =>
       obtain ⟨v,H',os,bare,un,hok',r',q⟩:=h
       have q':v=.bl true:=q
       subst q'
       obtain rfl:u=Value.bool true:=r'
       refine ⟨rfl,OldK.of_keep fun b o e=>?_,os,bare⟩
       cases q:H b with
       | none=>exact un.keep b o e q (by intro z; exact absurd (show b∈([]:List Addr) from z) (by simp)) (by simp)
       | some u =>
         rcases hO b with z | ⟨ob,xs,z⟩
         · rw [q] at z; cases z
         · have z2:=un.frzs b ob _ z
           obtain ⟨e1,_⟩:=hok b _ z
           obtain ⟨e2,_⟩:=hok' b _ z2
           rw [e] at e1; cases e1
           exact e2
 cases hk:K.lookup a with
 | some o =>
   have e:=KX a o hk
   rw [ha] at e
   cases e
   refine core (fun _=>none) (fun _=>.inl rfl) (.inr ⟨_,vs.toArray,_,hk,rfl,rfl,rfl,by rw [List.size_toArray,lenV]; exact hl,by simpa using rv⟩) (fun b u z=>by have z':(none:Option HO)=some u:=z; cases z') (fun b z=>absurd rfl z) fun z=>absurd rfl z
 | none =>
   refine core (fun b=>if b=a then some (.frz { cls:=.type "list",data:=.seq vs.toArray } (.lst (ns.map V.int))) else none) (fun b=>?_) (.inl (.inr ⟨{ cls:=.type "list",data:=.seq vs.toArray },if_pos rfl⟩)) (fun b u z=>?_) (fun b z=>?_) fun _=>hk
   · by_cases hb:b=a
     · exact .inr ⟨_,_,if_pos hb⟩
     · exact .inl (if_neg hb)
   · by_cases hb:b=a
     · have z':=(if_pos hb).symm.trans z
       cases z'
       subst hb
       exact ⟨ha,by rw [List.length_map]; exact hl,vs,_,rv,ha⟩
     · have z':=(if_neg hb).symm.trans z
       cases z'
   · by_cases hb:b=a
     · exact hb
     · exact absurd (if_neg hb) z
end L2
namespace L2
open PySem PySem.Spec PyProof.Rows
theorem walk_of {l:PySem.W.OpenLaw} {n k:Nat} {q:Program} {loose:List Str} {XP:(Str→Option Value)→Heap→Prop} {YP:World→Heap→Prop} {d:DefRec} {K:Params→PySem.W.Frag} {CX:World→CXT} {sp:World→Sp} {x:Str}
   (hn:l.most=some n) (hn2:n≤sizeLine) (hdf:d.params.defaults=[]) (hr:Room k callerA)
   (hY:∀ (w:World) (h:Heap),YP w h→(K w.params).In h)
   (F:∀ (w:World) (mg:Str→Option Value) (fa:Addr) (h:Heap),(K w.params).In h→h.Ns mainGlobals mg→mg d.name=some (.ref fa) →
     ∃ fd:FuncData,(∀ (s:Shared) (u:Value),BindsTo s fd ⟨[u],[]⟩ [(x,u)]) ∧
       ∀ base:Heap,(K w.params).In base→base.Ns mainGlobals mg→FnOk l.prog w (K w.params) mg base (CX w) k fa fd [x] (sp w))
   (hsp:∀ (w:World) (H:Hp) (a:Addr) (ns:List Int),ns.length≤n→vI H→SqL (K w.params) H a (ns.map V.int)→sp w [.ref a] H (fun v _=>v=.bl true) fun _ _ _=>False)
   (hCX:∀ (w:World) (H:Hp) (s:Shared) (e:Value) (s':Shared),CX w [] H s (fun _ _ _=>False) e s'→False) :
   PySem.W.WalkO q loose XP YP l.row.toRowW d [] (fun f vs=>PySem.call f vs):=by
 refine Att.attach_call hn hdf fun w s₀ s₁ mg mb fa o pm cd doc a vs ns G Y ho hd hcd hmg hobj hints hlen hg=>?_
 have KX:=hY w _ Y
 obtain ⟨fd,hb,hF⟩:=F w mg fa _ KX G.T.g hmg
 exact uy KX G.T.g G.T.b G.T.builtins G.T.nolimit hg hobj hints (Nat.le_trans hlen hn2) hr hF hb (fun H hO hS=>hsp w H a ns hlen hO hS) fun H e s'=>hCX w H s₁ e s'
end L2
namespace L2
open PySem PySem.Spec PyProof.Rows
def qz (s:Stmt) (j:Nat):Stmt:=match s with
 | .ClassDef _ _ _ body _ _ _ _ _ _ _=>body.getD j (.Pass ⟨0,0,0,0⟩)
 | _=>.Pass ⟨0,0,0,0⟩
def aA (s:Stmt):Arguments:=match s with
 | .FunctionDef _ a _ _ _ _ _ _ _ _=>a
 | _=>{ posonlyargs:=[],args:=[],vararg:=none,kwonlyargs:=[],kw_defaults:=[],kwarg:=none,defaults:=[] }
def az (s:Stmt):List Stmt:=match s with
 | .FunctionDef _ _ b _ _ _ _ _ _ _=>b
 | _=>[]
def aa (s:Stmt):Scope:=match s with
 | .FunctionDef _ _ _ _ _ _ sc _ _ _=>sc
 | _=>{ kind:=.function,names:=[],isGenerator:=false,isCoroutine:=false }
abbrev CX0:CXT:=fun _ _ _ _ _ _=>False
abbrev E0:XK:=fun _ _ _=>False
structure Fun (K:PySem.W.Frag) (x qual:Str) (st:Stmt) (f:Addr) (fd:FuncData):Prop where
 ex:∃ (oc:Value) (od:Option Addr) (kV doc pm:Value) (an:Option Addr) (cdv ct:Value) (osl:Array (Option Value)),
   fd=PySem.W.fnOf x qual (aA st) (az st) (aa st) .none kV doc pm an cdv ct∧K.lookup f=some ⟨oc,od,.func fd,osl⟩∧PySem.W.codeIn K cdv qual=true
 kp:PySem.W.keepIn K (.ref f)=true
section
variable {P:Program} {w:World} {K:PySem.W.Frag} {mg:Str→Option Value} {base:Heap}
theorem Fun.binds {x qual:Str} {st:Stmt} {f:Addr} {fd:FuncData} {ps:List Str} (F:Fun K x qual st f fd)
   (h:∀ (kV doc pm:Value) (an:Option Addr) (cdv ct:Value) (us:List Value),us.length=ps.length→bindArgs (PySem.W.fnOf x qual (aA st) (az st) (aa st) .none kV doc pm an cdv ct) ⟨us,[]⟩=pure (ps.zip us)):Binds K fd ps []:=by
 obtain ⟨oc,od,kV,doc,pm,an,cdv,ct,osl,rfl,lk,hcd⟩:=F.ex
 exact .all (h kV doc pm an cdv ct)
theorem aI {x qual:Str} {st:Stmt} {f:Addr} {oc:Value} {od an:Option Addr} {osl:Array (Option Value)} {kV doc pm cdv ct:Value} (l:K.lookup f=some ⟨oc,od,.func (PySem.W.fnOf x qual (aA st) (az st) (aa st) .none kV doc pm an cdv ct),osl⟩)
   (c:PySem.W.codeIn K cdv qual=true) (k:PySem.W.keepIn K (.ref f)=true):Fun K x qual st f (PySem.W.fnOf x qual (aA st) (az st) (aa st) .none kV doc pm an cdv ct):=⟨⟨oc,od,kV,doc,pm,an,cdv,ct,osl,rfl,l,c⟩,k⟩
end
theorem A2 {A:Around} {k:Nat} (hr:Room k A):A.units + 1 < cLine:=Nat.lt_of_le_of_lt (Nat.add_le_add_left (by decide:1≤64) _) hr.units
section
variable {X:Cx}
theorem pv (i:Nat) {x:Str} {pos:Pos} (hN:X.N[i]?=some x:=by rfl) (hv:Vis X.env.scope x:=by first | exact Or.inl rfl | exact Or.inr (Or.inl rfl) | exact Or.inr (Or.inr rfl)) (hd:(x == ("__debug__":Str))=false:=by decide)
   (hcd:(x == ("__classdict__":Str))=false:=by decide):PE X (.Name x pos) (mf i):=pF hN hv hd hcd
end
theorem Bh {A B:Prop} (h:B):if false=true then A else B:=by
 rw [if_neg Bool.false_ne_true]
 exact h
theorem Be {A B:Prop} (h:A):if true=true then A else B:=by
 rw [if_pos rfl]
 exact h
def Same (H H':Hp):Prop:=∀ b o,H b=some o→H' b=some o
theorem Same.refl (H:Hp):Same H H:=fun _ _ h=>h
theorem Same.trans {H H1 H2:Hp} (a:Same H H1) (b:Same H1 H2):Same H H2:=fun c o h=>b c o (a c o h)
theorem Same.free {H H':Hp} (e:Same H H') {l:Addr} (h:H' l=Option.none):H l=Option.none:=by
 cases q:H l with
 | none=>rfl
 | some o =>
   rw [e l o q] at h
   cases h
theorem Same.seq {K:PySem.W.Frag} {H H':Hp} {a:Addr} {xs:List V} (e:Same H H') (h:SqL K H a xs):SqL K H' a xs:=by
 rcases h with (h | ⟨o,h⟩) | h
 · exact .inl (.inl (e _ _ h))
 · exact .inl (.inr ⟨o,e _ _ h⟩)
 · exact .inr h
end L2
namespace L2
open PySem PySem.Spec PyProof.Rows
section
variable {X:Cx}
theorem tQ:dz X (.builtin "len") (fun xs H Q=>∃ a kvs,xs=[V.ref a]∧H a=some (.dK kvs)∧Q (.int kvs.length) H):=by
 intro pins s σ H xs us Q I r h
 obtain ⟨a,kvs,rfl,ha,q⟩:=h
 obtain ⟨u,rfl,ru⟩:=jM r
 cases ru
 exact A7 I (.inl ha) fun t s' I'=>⟨.int kvs.length,H,I',⟨t,rfl⟩,q⟩
end
section
variable {κ:Type} [DecidableEq κ]
end
end L2
set_option Elab.async false
set_option linter.all false
set_option maxRecDepth 100000
namespace L2
open PySem PySem.Spec PyProof.Rows
def Cx.comp (X:Cx) (Nc:List Str) (scope:Scope) (cl:List (Str × Addr)) (C:Addr) (s₂:Shared) (H₁:Hp) (fp:List Addr):Cx where
 prog:=X.prog
 w:=X.w
 K:=X.K
 mg:=X.mg
 base:=X.base
 A:=X.A
 N:=Nc
 s₀:=s₂
 H₀:=H₁
 env:=compEnvC scope cl C X.env
 outer:=X.stack
 stack:=X.stack
 ex:=fp
 fn:=fun _=>false
 calm:=X.calm
 pn:=[]
 xe:=fun _ _=>False
structure CompTxt (X:Cx) (Nc:List Str) (own:Nat) (js:List Nat) (scope:Scope) (cl:List (Str × Addr)):Prop where
 clos:closureFor scope X.env=pure cl
 kind:scope.kind=.function
 nocell:∀ y∈scope.names,y.2≠.cell
 names:∀ y∈scope.names,y.2=.local→scope.names.lookup y.1=some .local
 cells:∀ x c,cl.lookup x=some c→X.env.cells.lookup x=some c
 has:∀ x,((relabel scope X.env).names.lookup x=some .cell∨(relabel scope X.env).names.lookup x=some .free)→∃ c,cl.lookup x=some c
 len:Nc.length=own + js.length
 outer:∀ i x,Nc[own + i]?=some x→∃ j,js[i]?=some j∧X.N[j]?=some x∧X.env.scope.names.lookup x=some .cell∧(relabel scope X.env).names.lookup x=some .cell
def db (own:Nat) (js:List Nat) (σ:St):St:=List.replicate own none ++ js.map fun j=>(σ[j]?).getD none
def rN (own:Nat) (js:List Nat) (wi:TI) (g:TG) (tc:TT) (te:TE):TE:=fun σ H Q=>wi σ H fun J H1=>∀ p,H1 p=none →
 ∃ W:Nat→Nat→List V→St→Hp→Prop,(∃ m,W 0 m [] (db own js σ) (upd H1 p (.lst [])))∧∀ i m ys σc Hc,W i m ys σc Hc →
   (J.stop i Hc∧Q (.ref p) Hc)∨(J.go i Hc∧∀ x H',J.yld i Hc x H'→g x σc H' fun σ2 H2=>tc σ2 H2 fun b H3 =>
     if b=true then te σ2 H3 fun y H4=>H4 p=some (.lst ys)∧ys.length < sizeLine∧∃ m',m' < m∧W (i + 1) m' (ys ++ [y]) σ2 (upd H4 p (.lst (ys ++ [y])))
     else ∃ m',m' < m∧W (i + 1) m' ys σ2 H3)
def PTs (X:Cx) (ifs:List Expr) (t:TT):Prop :=
 ∀ (pins:List (Addr × Obj)) (s:Shared) (σ:St) (H:Hp) (Q:Bool→Hp→Prop),Inv X pins σ H s→t σ H Q →
   wpAny (model X.prog X.w) X.A (forIn ifs true fun c r=>if r=true then do let ok ← isTrue c X.env (eval c X.env); pure (ForInStep.yield ok) else pure (ForInStep.yield r)) (TP X pins σ Q) X.xe s
def tYes:TT:=fun _ H Q=>Q true H
theorem g6 {X:Cx}:PTs X [] tYes:=fun pins s σ H Q I h=>wpAny_tests_nil ⟨H,I,h⟩
theorem qu {X:Cx} {c:Expr} {t:TT} (h:PT X c t):PTs X [c] t:=fun pins s σ H Q I q=>wpAny_tests_one (h pins s σ H Q I q)
section
variable {prog:Program} {w:World} {A:Around} {E:Value→Shared→Prop} {R:Result→Shared→Prop} {s:Shared}
theorem j6 {elt target iter:Expr} {ifs:List Expr} {scope:Scope} {pos:Pos} {it acc:Value} {env:Env} (I:Nat→Shared→Prop)
   (turn:∀ n s,I n s→wpAny (model prog w) A (pyNext it) (fun r s₁=>match r with
     | none=>R (.ok .next) s₁
     | some v=>wpAny (model prog w) A (letOwnedTupleGo target it v) (fun _ s₁'=>wpAny (model prog w) A (assign target env v) (fun _ s₂ =>
         wpAny (model prog w) A (forIn ifs true fun c r=>if r=true then do let ok ← isTrue c env (eval c env); pure (ForInStep.yield ok) else pure (ForInStep.yield r)) (fun ok s₃ =>
           if ok=true then wpAny (model prog w) A (eval elt env) (fun x s₄ =>
             wpAny (model prog w) A (call (.builtin "list.append") [acc,x]) (fun _ s₅=>∃ m,m < n∧I m s₅) (fun _ _=>False) s₄) (fun _ _=>False) s₃
           else ∃ m,m < n∧I m s₃) (fun _ _=>False) s₂) (fun _ _=>False) s₁') (fun _ _=>False) s₁) (fun _ _=>False) s)
   (n:Nat) (h:I n s) :
   codeAny (model prog w) A (.compLoop (.ListComp elt [⟨target,iter,ifs,0⟩] scope pos) 0 it acc env) R s:=by
 refine codeAny_loop rfl I (fun n s hI=>?_) n h
 show wpAny _ A ((compTurn (.ListComp elt [⟨target,iter,ifs,0⟩] scope pos) 0 it acc env).onRaise (fun x=>do noteFrame x env; theTreesLotGoes x)) _ _ s
 refine wpAny_noted ?_
 rw [compTurn_list]
 refine wpAny_bind (wpAny_standAt (wpAny_bind (wpAny_mono (turn n s hI) (fun r s₁ h₁=>?_) fun _ _ h'=>h'.elim)))
 cases r with
 | none=>exact wpAny_pure h₁
 | some v =>
   refine wpAny_bind (wpAny_mono h₁ (fun _ s₁' h₁'=>?_) fun _ _ h'=>h'.elim)
   refine wpAny_bind (wpAny_mono h₁' (fun _ s₂ h₂=>wpAny_bind (wpAny_mono h₂ (fun ok s₃ h₃=>?_) fun _ _ h'=>h'.elim)) fun _ _ h'=>h'.elim)
   cases ok with
   | true =>
     rw [if_pos rfl] at h₃
     simp only [if_true]
     exact wpAny_bind (wpAny_bind (wpAny_mono h₃ (fun x s₄ h₄=>wpAny_bind (wpAny_mono h₄ (fun _ s₅ h₅=>wpAny_pure (wpAny_pure ⟨rfl,h₅⟩)) fun _ _ h'=>h'.elim)) fun _ _ h'=>h'.elim))
   | false =>
     rw [if_neg Bool.false_ne_true] at h₃
     simp only [Bool.false_eq_true,if_false]
     first
       | exact wpAny_pure ⟨rfl,h₃⟩
       | exact wpAny_bind (wpAny_pure (wpAny_pure ⟨rfl,h₃⟩))
end
end L2
set_option Elab.async false
set_option linter.all false
set_option maxRecDepth 100000
namespace L2
open PySem PySem.Spec PyProof.Rows
section
variable {X:Cx} {Nc:List Str} {own:Nat} {js:List Nat} {scope:Scope} {cl:List (Str × Addr)}
theorem ms {pins:List (Addr × Obj)} {σ:St} {H₁:Hp} {s₂:Shared} {C:Addr} {fp:List Addr} (T:CompTxt X Nc own js scope cl) (I:Inv X pins σ H₁ s₂) (hC:s₂.heap.objs.size≤C)
   (f1:∀ b∈fp,dZ X pins H₁ b) (hlt:∀ b∈fp,b < s₂.heap.objs.size):(X.comp Nc scope cl C s₂ H₁ fp).Ok where
 mod:=I.ok.mod
 kind:=by show (relabel scope X.env).kind=_; exact T.kind
 glob:=I.ok.glob
 blt:=I.ok.blt
 above:=hC
 inj:=fun x y c h1 h2=>I.ok.inj x y c (T.cells x c h1) (T.cells y c h2)
 has:=fun x h=>T.has x h
 cab:=fun x c h=>by cases h
 hd:=I.ok.hd
 frames:=I.ok.frames
 stk:=.inl rfl
 exf:=fun b hb=>⟨Nat.ne_of_lt (Nat.lt_of_lt_of_le (hlt b hb) hC),fun x c h=>(f1 b hb).2.2.2.2.1 x c (T.cells x c h)⟩
 bs:=I.bs
 bsz:=Nat.le_trans I.ok.bsz I.sz
 noex:=fun b o e hb=>by
   rcases (f1 b hb).2.2.2.1 with z | z
   · exact I.ok.noex b o e z
   · exact absurd (Nat.lt_of_lt_of_le (Heap.lt_size (I.ok.bs b o e).1) z) (Nat.lt_irrefl _)
 exfs:=fun b hb hs=>by
   rcases List.mem_cons.mp (I.stkSub b hs) with z | z
   · exact (f1 b hb).2.1 z
   · exact (f1 b hb).2.2.1 z
 funs:=I.stack
 frf:=I.stkFree
theorem oQ {pins:List (Addr × Obj)} {σ:St} {H₁:Hp} {s₂:Shared} {C D:Addr} {fp:List Addr} {h₁:Heap} {t:Nat} {m:Str→Option Value} (T:CompTxt X Nc own js scope cl) (I:Inv X pins σ H₁ s₂) (hC:s₂.heap.objs.size≤C)
   (hD:s₂.heap.objs.size≤D) (hDC:D≠C) (f1:∀ b∈fp,dZ X pins H₁ b) (hlt:∀ b∈fp,b < s₂.heap.objs.size) (old:∀ b o,s₂.heap.get? b=some o→h₁.get? b=some o) (hns:h₁.Ns C m)
   (hacc:∃ n,h₁.get? D=some { cls:=.type "list",data:=.seq ([]:List Value).toArray n }) :
   Inv (X.comp Nc scope cl C s₂ H₁ fp) [] (db own js σ) (upd H₁ D (.lst [])) { s₂ with heap:=h₁,toks:=t }:=by
 obtain ⟨na,hacc⟩:=hacc
 have cellK:∀ c v,s₂.heap.IsCell c v→h₁.IsCell c v:=fun c v ⟨o,ho,hd⟩=>⟨o,old c o ho,hd⟩
 refine ⟨ms T I hC f1 hlt,rfl,I.bare,Un.laid old hD (I.hok.fresh hD),⟨m,hns,fun i x v e1 e2 e3=>?_⟩,fun x c e=>?_,?_,fun x c e=>?_,fun p hp=>(by cases hp),I.hok.laid old hD ?_,?_⟩
 · have hN:Nc[i]?=some x:=e1
   have hσ:(db own js σ)[i]?=some (some v):=e2
   unfold db at hσ
   by_cases hi:i < own
   · rw [List.getElem?_append_left (by simpa using hi),List.getElem?_replicate] at hσ
     simp [hi] at hσ
   · obtain ⟨k,rfl⟩:∃ k,i=own + k:=⟨i - own,by omega⟩
     rw [List.getElem?_append_right (by simp)] at hσ
     simp only [List.length_replicate,Nat.add_sub_cancel_left,List.getElem?_map] at hσ
     obtain ⟨j,hj,hx,hk,hr⟩:=T.outer k x hN
     rw [hj] at hσ
     replace hσ:some (σ[j]?.getD none)=some (some v):=hσ
     have hσj:σ[j]?=some (some v):=by
       cases q:σ[j]? with
       | none=>rw [q] at hσ; simp at hσ
       | some y=>rw [q] at hσ; simpa using hσ
     obtain ⟨m0,hn0,hl0⟩:=I.loc
     obtain ⟨u,ru,lk⟩:=hl0 j x v hx hσj (.inr (.inl hk))
     refine ⟨u,ru,.inr ⟨.inl hr,?_⟩⟩
     rcases lk with ⟨z,_⟩ | ⟨_,c,hc,hcell⟩
     · have z':X.env.scope.names.lookup x=some .local:=z
       rw [hk] at z'; cases z'
     · obtain ⟨c',hc'⟩:=T.has x (.inl hr)
       have:=T.cells x c' hc'
       rw [hc] at this; cases this
       exact ⟨c,hc',cellK c _ hcell⟩
 · obtain ⟨v,z⟩:=I.cell x c (T.cells x c e)
   exact ⟨v,cellK c v z⟩
 · show upd H₁ D (.lst []) C=none
   rw [ap (Ne.symm hDC)]
   exact I.hok.fresh hC
 · have e':=T.cells x c e
   obtain ⟨v,o,ho,_⟩:=I.cell x c e'
   rw [ap (Nat.ne_of_lt (Nat.lt_of_lt_of_le (Heap.lt_size ho) hD))]
   exact I.freeC x c e'
 · exact ⟨Nat.zero_le _,[],na,.nil,hacc⟩
 · show (db own js σ).length=Nc.length
   rw [T.len]
   simp [db]
theorem m6 {pins:List (Addr × Obj)} {σ σc:St} {H₁ H':Hp} {s₂ s':Shared} {C:Addr} {fp:List Addr} {h':Heap} (I:Inv X pins σ H₁ s₂) (hC:s₂.heap.objs.size≤C)
   (f1:∀ b∈fp,dZ X pins H₁ b) (I':Inv (X.comp Nc scope cl C s₂ H₁ fp) [] σc H' s') (hs:Heap.SameBut C s'.heap h'):Inv X pins σ H' { s' with heap:=h' }:=by
 have u:Un (frs X.stack) fp H₁ H' s₂.heap s'.heap:=I'.base
 have ne:∀ b o,s₂.heap.get? b=some o→b≠C:=fun b o e=>Nat.ne_of_lt (Nat.lt_of_lt_of_le (Heap.lt_size e) hC)
 have k:∀ b o,b≠C→s'.heap.get? b=some o→h'.get? b=some o:=fun b o n e=>hs.extBut b o n e
 have u':Un (frs X.stack) fp H₁ H' s₂.heap h':=⟨fun b o e n hb hx=>k b o (ne b o e) (u.keep b o e n hb hx),fun b o e n hb hx=>let ⟨sl,q⟩:=u.slot b o e n hb hx; ⟨sl,k b _ (ne b o e) q⟩,
   u.free,fun b o e hx=>let ⟨o',q⟩:=u.there b o e hx; ⟨o',k b o' (ne b o e) q⟩,u.tups,u.frzs,u.tbls⟩
 have hfree:H' C=none:=I'.free
 have hok':HOk X.prog X.w H' h':=fun a o e=>(I'.hok a o e).stay (fun b v hb q=>k b v (fun z=>by
   rcases hb with y | y
   · rw [y] at z; rw [z,hfree] at e; cases e
   · rw [z,hfree] at y; cases y) q) (fun _ q=>q) fun _ _ q=>q
 exact I.call' (s':={ s' with heap:=h' }) (ch:=fp) I'.os u' hok' I'.bare fun b hb=>⟨(f1 b hb).2.2.2.1,(f1 b hb).2.1,(f1 b hb).2.2.2.2.1,(f1 b hb).2.2.2.2.2⟩
theorem f8 {elt target iter:Expr} {ifs:List Expr} {pos:Pos} {wi:TI} {g:TG} {tc:TT} {te:TE} (hc:X.calm=true) (T:CompTxt X Nc own js scope cl)
   (hi:PI X target iter wi) (hg:∀ C s₂ H₁ fp,PG (X.comp Nc scope cl C s₂ H₁ fp) target g) (ht:∀ C s₂ H₁ fp,PTs (X.comp Nc scope cl C s₂ H₁ fp) ifs tc)
   (he:∀ C s₂ H₁ fp,PE (X.comp Nc scope cl C s₂ H₁ fp) elt te) (hs:∀ x,foldedSetIterable iter X.env x=pure x:=by intro _; rfl) :
   PE X (.ListComp elt [⟨target,iter,ifs,0⟩] scope pos) (rN own js wi g tc te):=by
 intro pins s σ H Q I h
 rw [eval_ListComp]
 refine wpAny_comprehension_free (use:=none) rfl hs T.clos T.kind T.names (thn (hi pins s σ H _ I h) fun v s1 h1=>thn h1 fun itv s2 h2=>?_)
 obtain ⟨it,fp,tn,J,H1,rfl,I1,Tn,st,f1,R⟩:=h2
 have hfp:∀ b∈fp,b < s2.heap.objs.size:=fun b hb=>let ⟨o,e,_⟩:=Tn.obj _ _ st b hb; Heap.lt_size e
 refine wpAny_newObj_type (wpAny_newFunctionEnv T.nocell (by intro y hy; simp at hy) (fun h₁ hns₁ hsb₁=>?_) T.kind)
 dsimp only at hns₁ hsb₁ ⊢
 generalize hH2:s2.heap.push { cls:=.type "list",dict:=none,data:=.seq ([]:List Value).toArray }=H2 at hns₁ hsb₁ ⊢
 have hC:H2.objs.size=s2.heap.objs.size + 1:=by rw [← hH2,Heap.size_push]
 have hDC:s2.heap.objs.size≠H2.objs.size:=by rw [hC]; exact Nat.ne_of_lt (Nat.lt_succ_self _)
 have hCle:s2.heap.objs.size≤H2.objs.size:=by rw [hC]; exact Nat.le_succ _
 have below:∀ b,b < s2.heap.objs.size→b≠H2.objs.size:=fun b hb=>by rw [hC]; exact Nat.ne_of_lt (Nat.lt_succ_of_lt hb)
 have old:∀ b o,s2.heap.get? b=some o→h₁.get? b=some o:=fun b o e=>hsb₁.extBut b o (below b (Heap.lt_size e)) (Heap.get?_push_of_some _ (hH2 ▸ Heap.get?_push_of_some _ e))
 have hacc:∃ n,h₁.get? s2.heap.objs.size=some { cls:=.type "list",data:=.seq ([]:List Value).toArray n }:=⟨_,hsb₁.extBut _ _ hDC (Heap.get?_push_of_some _ (hH2 ▸ Heap.get?_push_size _ rfl))⟩
 have st₁:tn 0 h₁:=Tn.keep _ _ _ st fun b _ o e=>old b o e
 obtain ⟨W,⟨m0,w0⟩,turn⟩:=R s2.heap.objs.size I1.fresh
 have Ic:=oQ (t:=s2.toks + ([]:List (Str × Value)).length) T I1 hCle (Nat.le_refl _) hDC f1 hfp old hns₁ hacc
 generalize hXc:X.comp Nc scope cl H2.objs.size s2 H1 fp=Xc at Ic
 have stat:∀ {H':Hp},(∀ b∈fp,H' b=none)→∀ b∈fp,dZ Xc [] H' b:=fun {H'} hn b hb=>by
   subst hXc
   exact ⟨hn b hb,below b (hfp b hb),(ms T I1 hCle f1 hfp).exfs b hb,.inl hb,fun x c e=>(f1 b hb).2.2.2.2.1 x c (T.cells x c e),fun p hp=>by cases hp⟩
 have fr0:∀ b∈fp,upd H1 s2.heap.objs.size (.lst []) b=none:=fun b hb=>by
   rw [ap (Nat.ne_of_lt (hfp b hb))]
   exact (f1 b hb).1
 have calmc:Xc.calm=true:=by subst hXc; exact hc
 have loop:∀ s₃:Shared,s₃={ s2 with heap:=h₁,toks:=s2.toks + ([]:List (Str × Value)).length } →
     codeAny (model X.prog X.w) X.A (.compLoop (.ListComp elt [⟨target,iter,ifs,0⟩] scope pos) 0 (.ref it) (.ref s2.heap.objs.size) (compEnvC scope cl H2.objs.size X.env))
       (compPost (model X.prog X.w) X.A X.xe none (EP X pins σ Q) (.ref s2.heap.objs.size) H2.objs.size) s₃:=by
   rintro s₃ rfl
   refine j6 (fun n s'=>∃ i ys σ' H',Inv Xc [] σ' H' s'∧tn i s'.heap∧(∀ b∈fp,H' b=none)∧W i n ys σ' H') ?_ m0 ⟨0,[],_,_,Ic,st₁,fr0,w0⟩
   rintro n s3 ⟨i,ys,σ3,H3,I3,st3,fr3,w3⟩
   rcases turn i n ys σ3 H3 w3 with ⟨stop,q⟩ | ⟨go,step⟩
   · subst hXc
     refine thn (Tn.done (X.comp Nc scope cl H2.objs.size s2 H1 fp) rfl rfl rfl hc i [] s3 σ3 H3 _ I3 (stat fr3) st3 stop) fun r s4 ⟨hr,I4⟩=>?_
     subst hr
     obtain ⟨m4,hn4,_⟩:=id I4.loc
     exact ⟨m4,hn4,fun h' hs'=>⟨.ref s2.heap.objs.size,H3,m6 I1 hCle f1 I4 hs',rfl,q⟩⟩
   · subst hXc
     refine thn (Tn.item (X.comp Nc scope cl H2.objs.size s2 H1 fp) rfl rfl rfl hc i [] s3 σ3 H3 _ I3 (stat fr3) st3 go) fun r s4 ⟨u,hr,h4⟩=>?_
     subst hr
     refine thn h4 fun _ s5 ⟨x,H5,I5,r5,y5,st5,fr5⟩=>?_
     have I5':=I5.pinned (stat fr5) (Tn.obj _ _ st5)
     have back:∀ {σ7:St} {H7:Hp} {s7:Shared},Inv (X.comp Nc scope cl H2.objs.size s2 H1 fp) ([] ++ gX fp s5.heap) σ7 H7 s7→Inv (X.comp Nc scope cl H2.objs.size s2 H1 fp) [] σ7 H7 s7∧tn (i + 1) s7.heap∧∀ b∈fp,H7 b=none:=fun {σ7 H7 s7} I7=>by
       refine ⟨I7.unpinned,Tn.keep _ _ _ st5 fun b hb o e=>(I7.pin (b,o) (List.mem_append_right _ (List.mem_append_right _ (dI hb e)))).1,fun b hb=>?_⟩
       obtain ⟨o,e,d⟩:=Tn.obj _ _ st5 b hb
       exact (I7.pin (b,o) (List.mem_append_right _ (List.mem_append_right _ (dI hb e)))).2.1
     refine thn (hg _ _ _ _ _ s5 σ3 H5 x u _ I5' r5 (step x H5 y5)) fun _ s6 ⟨σ6,H6,I6,q6⟩=>?_
     refine mz (ht _ _ _ _ _ s6 σ6 H6 _ I6 q6) fun ok s7 H7 I7 q7=>?_
     cases ok with
     | false =>
       rw [if_neg Bool.false_ne_true] at q7 ⊢
       obtain ⟨m',hm,w7⟩:=q7
       obtain ⟨J1,J2,J3⟩:=back I7
       exact ⟨m',hm,i + 1,ys,σ6,H7,J1,J2,J3,w7⟩
     | true =>
       rw [if_pos rfl] at q7 ⊢
       refine bj (he _ _ _ _ _ s7 σ6 H7 _ I7 q7) fun y s8 yv H8 I8 r8 ⟨hp8,hl8,m',hm,w8⟩=>?_
       refine thn (cq _ s8 σ6 H8 (.ref s2.heap.objs.size) [yv] _ [y] (fun v' H'=>W (i + 1) m' (ys ++ [yv]) σ6 H') I8 rfl (.cons r8 .nil) ⟨_,ys,yv,rfl,rfl,hp8,hl8,w8⟩) fun v9 s9 ⟨_,H9,I9,_,w9⟩=>?_
       obtain ⟨J1,J2,J3⟩:=back I9
       exact ⟨m',hm,i + 1,ys ++ [yv],σ6,H9,J1,J2,J3,w9⟩
 exact codeAny_compStart_list (loop _ rfl) (Tn.self _ 0 _ _ _ st₁ (loop _ rfl))
end
end L2
set_option Elab.async false
set_option linter.all false
set_option maxRecDepth 100000
namespace L2
open PySem PySem.Spec PyProof.Rows
section
variable {X:Cx}
def rInsert:V→List V→Hp→VK→Prop:=fun x vs H Q=>∃ (l:Addr) (xs:List V) (i:Int) (y:V),x=.ref l∧vs=[.int i,y]∧H l=some (.lst xs)∧0≤i∧i≤xs.length∧xs.length < sizeLine∧Q .non (upd H l (.lst (xs.take i.toNat ++ y :: xs.drop i.toNat)))
theorem mR:MtM X "list.insert" rInsert:=by
 intro pins s σ H x vs v us Q I rx rv h
 obtain ⟨l,xs,i,y,rfl,rfl,hH,h0,hk,hz,q⟩:=h
 cases rx
 obtain ⟨u1,u2,rfl,⟨t,rfl⟩,ru⟩:=rv.two
 obtain ⟨z,its,n,r,hl,e⟩:=I.lstM hH
 have hn:=gj
 have hf:Builtin.List.listFitsIndex i=true:=by
   unfold Builtin.List.listFitsIndex
   rw [Bool.and_eq_true]
   exact ⟨decide_eq_true (by omega),decide_eq_true (by omega)⟩
 have hf':¬ (!Builtin.List.listFitsIndex i)=true:=by rw [hf]; decide
 have hzz:its.toArray.size≤sizeLine:=by rw [List.size_toArray,← hl]; exact z
 refine call_meets PySem.F.slot_list_insert ⟨_,e,rfl⟩ PySem.F.entry_list_insert (PySem.F.args_list_insert_3 _ _ _) (PySem.AutoSeq1.list_insert_list_int_val_1 l its.toArray n i t u2 hf' hzz) ⟨e,?_⟩
 refine ⟨.non,_,I.lset (its':=its.take i.toNat ++ u2 :: its.drop i.toNat) hH e ?_ ((r.take i.toNat).append (.cons ru (r.drop i.toNat))) ?_,rfl,q⟩
 · show (its.toArray.extract 0 (if i < 0 then (i + (its.toArray.size:Int)).toNat else min i.toNat its.toArray.size)).push u2 ++ its.toArray.extract (if i < 0 then (i + (its.toArray.size:Int)).toNat else min i.toNat its.toArray.size)=_
   have e0:(if i < 0 then (i + (its.toArray.size:Int)).toNat else min i.toNat its.toArray.size)=i.toNat:=by
     rw [if_neg (by omega),List.size_toArray]
     omega
   rw [e0]
   exact PySem.W.kl_ins_eq its i.toNat u2
 · rw [List.length_append,List.length_cons,List.length_take,List.length_drop]
   omega
theorem oM (hc:X.calm=true):dz X (.builtin "all") (fun xs H Q=>∃ (p:Addr) (bs:List Bool),xs=[.ref p]∧SqL X.K H p (bs.map V.bl)∧Q (.bl (bs.all id)) H):=by
 intro pins s σ H xs us Q I r h
 obtain ⟨p,bs,rfl,hp,q⟩:=h
 obtain ⟨u,rfl,ru⟩:=jM r
 cases ru
 obtain ⟨its,rv,pl,hz⟩:=I.list hp
 have hl:=pl.isList
 have hlt:=pl.lt
 have hh:X.A.in1.handled=none:=I.ok.hd hc
 have hlen:its.length=bs.length:=by rw [← rv.length,List.length_map]
 refine call_all_walk (wpAny_pyIter_list hl ?_)
 refine ⟨s.heap.objs.size,[s.heap.objs.size,p],[s.heap.objs.size],its.toArray.size,_,_,fun i=>(bs[i]?).getD true,rfl,Walks.list (A:=X.A.in1) hh _ p (Nat.ne_of_lt hlt) its.toArray,
   ⟨⟨_,Heap.get?_push_size _ rfl,rfl,rfl⟩,hl.push _⟩,fun i v s' Q' E' hP hQ=>?_,fun h' tk hk=>?_⟩
 · have hi:its[i]?=some v:=by simpa using hP
   have hib:i < bs.length:=by rw [← hlen]; exact (List.getElem?_eq_some_iff.mp hi).1
   obtain ⟨u,hu,ru⟩:=rv.get (i:=i) (x:=V.bl bs[i]) (by rw [List.getElem?_map,List.getElem?_eq_getElem hib]; rfl)
   rw [hi] at hu; cases hu
   cases ru
   replace hQ:Q' (bs[i]?.getD true) s':=hQ
   rw [List.getElem?_eq_getElem hib] at hQ
   exact wpAny_truthy_bool hQ
 · have e:((List.range its.toArray.size).all fun i=>(bs[i]?).getD true)=bs.all id:=by
     rw [List.size_toArray,hlen]
     rw [Bool.eq_iff_iff,List.all_eq_true,List.all_eq_true]
     constructor
     · intro z b hb
       obtain ⟨i,hi,rfl⟩:=List.getElem_of_mem hb
       have:=z i (List.mem_range.mpr hi)
       rw [List.getElem?_eq_getElem hi] at this
       exact this
     · intro z i hi
       have hi':=List.mem_range.mp hi
       rw [List.getElem?_eq_getElem hi']
       exact z _ (List.getElem_mem hi')
   have kk:∀ b o,s.heap.get? b=some o→h'.get? b=some o:=fun b o eb=>hk b o (fun hm=>by rw [List.mem_singleton.mp hm] at eb; exact Nat.lt_irrefl _ (Heap.lt_size eb)) (Heap.get?_push_of_some _ eb)
   rw [e]
   exact ⟨.bl _,H,I.kept (t':=tk) kk,rfl,q⟩
end
mutual
inductive Deep (K:PySem.W.Frag) (H:Hp):V→PyData→Prop
 | non:Deep K H .non .none
 | bl (b:Bool):Deep K H (.bl b) (.bool b)
 | int (i:Int):Deep K H (.int i) (.int i)
 | str {x:Str}:PyData.canLay0 (.str x)=true→Deep K H (.str x) (.str x)
 | lst {a:Addr} {xs:List V} {ds:List PyData}:SqL K H a xs→DeepAll K H xs ds→Deep K H (.ref a) (.list ds)
 | tup {a:Addr} {xs:List V} {ds:List PyData}:SqT K H a xs→DeepAll K H xs ds→Deep K H (.ref a) (.tuple ds)
inductive DeepAll (K:PySem.W.Frag) (H:Hp):List V→List PyData→Prop
 | nil:DeepAll K H [] []
 | cons {x:V} {d:PyData} {xs:List V} {ds:List PyData}:Deep K H x d→DeepAll K H xs ds→DeepAll K H (x :: xs) (d :: ds)
end
mutual
theorem Deep.reads {X:Cx} {pins:List (Addr × Obj)} {σ:St} {H:Hp} {s:Shared} (I:Inv X pins σ H s):∀ {x:V} {d:PyData} {u:Value},Deep X.K H x d→RelV x u→(∃ as,Reads s.heap u d as)∧d.canLay0=true
 | _,_,_,.non,r=>by cases (show _=Value.none from r); exact ⟨⟨_,.none⟩,by simp [PyData.canLay0]⟩
 | _,_,_,.bl b,r=>by cases (show _=Value.bool b from r); exact ⟨⟨_,.bool b⟩,by simp [PyData.canLay0]⟩
 | _,_,_,.int i,r=>by obtain ⟨t,e⟩:=(show ∃ t,_=Value.int i t from r); cases e; exact ⟨⟨_,.int i t⟩,by simp [PyData.canLay0]⟩
 | _,_,_,.str (x:=x) h,r=>by obtain ⟨t,e⟩:=(show ∃ t,_=Value.str x t from r); cases e; exact ⟨⟨_,.str x t⟩,h⟩
 | _,_,_,.lst (a:=a) h hs,r=>by
   cases (show _=Value.ref a from r)
   obtain ⟨its,rv,⟨o,n,e,c,_,dd⟩,hz⟩:=I.list h
   obtain ⟨⟨as,ra⟩,cl⟩:=DeepAll.reads I hs rv
   exact ⟨⟨_,.list e c dd (by simpa using ra)⟩,by simpa [PyData.canLay0] using cl⟩
 | _,_,_,.tup (a:=a) h hs,r=>by
   cases (show _=Value.ref a from r)
   obtain ⟨its,rv,⟨o,e,c,n,dd⟩,hz⟩:=I.tuple h
   obtain ⟨⟨as,ra⟩,cl⟩:=DeepAll.reads I hs rv
   exact ⟨⟨_,.tuple e c dd (by simpa using ra)⟩,by simpa [PyData.canLay0] using cl⟩
theorem DeepAll.reads {X:Cx} {pins:List (Addr × Obj)} {σ:St} {H:Hp} {s:Shared} (I:Inv X pins σ H s):∀ {xs:List V} {ds:List PyData} {us:List Value},DeepAll X.K H xs ds→Vals xs us→(∃ as,ReadsAll s.heap us ds as)∧PyData.canLayAll0 ds=true
 | _,_,_,.nil,.nil=>⟨⟨_,.nil⟩,by simp [PyData.canLayAll0]⟩
 | _,_,_,.cons h hs,.cons r rs=>by
   obtain ⟨⟨as,ra⟩,c1⟩:=Deep.reads I h r
   obtain ⟨⟨bs,rb⟩,c2⟩:=DeepAll.reads I hs rs
   exact ⟨⟨_,.cons ra rb⟩,by simp [PyData.canLayAll0,c1,c2]⟩
end
section
variable {X:Cx}
def zI (K:PySem.W.Frag):R2:=fun x y H Q=>∃ d e,Deep K H x d∧Deep K H y e∧d.depth≤40∧Q (.bl (PyData.eqv d e)) H
def AQ (K:PySem.W.Frag):R2:=fun x y H Q=>∃ d e,Deep K H x d∧Deep K H y e∧d.depth≤40∧Q (.bl (!PyData.eqv d e)) H
theorem zx (hu:X.A.units + 64 < cLine):OpR X (compareOp .Eq) (zI X.K):=by
 intro pins s σ H x y v u Q I rx ry h
 obtain ⟨d,e,hd,he,hp,q⟩:=h
 obtain ⟨⟨as,ra⟩,ca⟩:=hd.reads I rx
 obtain ⟨⟨bs,rb⟩,cb⟩:=he.reads I ry
 exact PySem.SeqAt.compareEq_reads ra rb ca cb (by omega) ⟨.bl _,H,I,rfl,q⟩
theorem lh (hu:X.A.units + 64 < cLine):OpR X (compareOp .NotEq) (AQ X.K):=by
 intro pins s σ H x y v u Q I rx ry h
 obtain ⟨d,e,hd,he,hp,q⟩:=h
 obtain ⟨⟨as,ra⟩,ca⟩:=hd.reads I rx
 obtain ⟨⟨bs,rb⟩,cb⟩:=he.reads I ry
 exact PySem.SeqAt.compareNe_reads ra rb ca cb (by omega) ⟨.bl _,H,I,rfl,q⟩
end
end L2
set_option Elab.async false
set_option linter.all false
set_option maxRecDepth 100000
namespace L2
open PySem PySem.Spec PyProof.Rows
structure SubF (P:Program) (w:World) (l:Addr) (ob:Obj) (src:Heap→Array Value→Prop) (at':Addr→Nat→Heap→Prop):Prop where
 start:∀ (A:Around) (s:Shared) (vs:Array Value) (Q:Value→Shared→Prop) (E:Value→Shared→Prop),src s.heap vs→Q (.ref s.heap.objs.size) { s with heap:=s.heap.push ob }→wpAny (model P w) A (pyIter (.ref l)) Q E s
 first:∀ it h,h.get? it=some ob→at' it 0 h
 atK:∀ it i h h',at' it i h→(∀ o,h.get? it=some o→h'.get? it=some o)→at' it i h'
 srcK:∀ h h' vs,src h vs→(∀ o,h.get? l=some o→h'.get? l=some o)→src h' vs
 obj:∀ it i h,at' it i h→∃ o,h.get? it=some o∧∀ v,o.data≠.cell v
 item:∀ (A:Around) (s:Shared) (it:Addr) (i:Nat) (vs:Array Value) (x:Value) (Q:Value→Shared→Prop) (E:Value→Shared→Prop),at' it i s.heap→src s.heap vs→vs[i]?=some x →
   (∀ h',at' it (i + 1) h'→Heap.SameBut it s.heap h'→Q x { s with heap:=h' })→wpAny (model P w) A (Builtin.SmallTypes.nextOf (.ref it)) Q E s
 fin:∀ (A:Around) (s:Shared) (it:Addr) (i:Nat) (vs:Array Value) (Q:Value→Shared→Prop) (E:Value→Shared→Prop),A.handled=none→at' it i s.heap→src s.heap vs→vs[i]?=none →
   (∀ h' e,Heap.ExtBut it s.heap h'→(∃ o,h'.get? e=some o∧o.cls=.type "StopIteration")→E (.ref e) { s with heap:=h' })→wpAny (model P w) A (Builtin.SmallTypes.nextOf (.ref it)) Q E s
theorem sJ {P:Program} {w:World} (l:Addr):SubF P w l { cls:=.type "list_iterator",data:=.fields #[.ref l,.int 0 0] } (fun h vs=>h.IsList l vs) (fun it i h=>h.IsListIter it l i) where
 start:=fun A s vs Q E hl hq=>wpAny_pyIter_list hl hq
 first:=fun it h e=>⟨_,e,rfl,rfl⟩
 atK:=fun it i h h' x k=>x.at k
 srcK:=fun h h' vs x k=>x.at k
 obj:=fun it i h x=>by
   obtain ⟨o,ho,_,hd⟩:=x
   exact ⟨o,ho,fun v z=>by rw [hd] at z; cases z⟩
 item:=fun A s it i vs x Q E ha hs hx hq=>wpAny_nextOf_list_item ha hs hx hq
 fin:=fun A s it i vs Q E hh ha hs hx hq=>wpAny_nextOf_list_end hh ha hs hx hq
section
variable {P:Program} {w:World} {A:Around} {E:Value→Shared→Prop} {s:Shared}
theorem jS {it t:Addr} {i:Nat} {vs:Array Value} {x:Value} {Q:Value→Shared→Prop} (hi:s.heap.IsTupleIter it t i) (ht:s.heap.IsTuple t vs) (hx:vs[i]?=some x)
   (hq:∀ h',h'.IsTupleIter it t (i + 1)→Heap.SameBut it s.heap h'→Q x { s with heap:=h' }):wpAny (model P w) A (Builtin.SmallTypes.nextOf (.ref it)) Q E s:=by
 obtain ⟨oi,hoi,hci,hdi⟩:=id hi
 obtain ⟨ot,hot,_,nt,hdt⟩:=ht
 unfold Builtin.SmallTypes.nextOf
 refine wpAny_bind (wpAny_callSpecial?_slot (name:=Str.ofString "__next__") hi.typeIs F.slot_tuple_iterator_next (wpAny_call_entry F.slot_tuple_iterator_next hi.typeIs F.entry_tuple_iterator_next ?_ (F.args_tuple_iterator_next_1 _)))
 show wpAny (model P w) _ (field (.ref it) 0 >>= _) _ _ s
 refine wpAny_bind (wpAny_field hoi hdi (x:=.ref t) rfl ?_)
 show wpAny (model P w) _ (if (Value.ref t == Value.none)=true then _ else _) _ _ s
 rw [if_neg (by exact Bool.false_ne_true)]
 show wpAny (model P w) _ (field (.ref it) 1 >>= _) _ _ s
 refine wpAny_bind (wpAny_field hoi hdi (x:=.int i 0) rfl ?_)
 show wpAny (model P w) _ (seqItems? (.ref t) >>= _) _ _ s
 refine wpAny_bind (wpAny_seqItems hot hdt ?_)
 simp only [Int.toNat_natCast,hx]
 refine wpAny_bind (wpAny_setField hoi hdi (by simp) (wpAny_pure ⟨x,rfl,wpAny_pure (hq _ ?_ (Heap.SameBut.update ..))⟩))
 exact ⟨_,Heap.get?_update_self _ hoi (Obj.isFreed_of_fields (Obj.data_mapFields hdi _)),(Obj.cls_mapFields ..).trans hci,by rw [Obj.data_mapFields hdi]; simp [rawInt]⟩
theorem kF {it t:Addr} {i:Nat} {vs:Array Value} {Q:Value→Shared→Prop} (hh:A.handled=none) (hi:s.heap.IsTupleIter it t i) (ht:s.heap.IsTuple t vs) (hx:vs[i]?=none)
   (hE:∀ h' e,Heap.ExtBut it s.heap h'→(∃ o,h'.get? e=some o∧o.cls=.type "StopIteration")→E (.ref e) { s with heap:=h' }):wpAny (model P w) A (Builtin.SmallTypes.nextOf (.ref it)) Q E s:=by
 obtain ⟨oi,hoi,hci,hdi⟩:=id hi
 obtain ⟨ot,hot,_,nt,hdt⟩:=ht
 unfold Builtin.SmallTypes.nextOf
 refine wpAny_bind (wpAny_callSpecial?_slot (name:=Str.ofString "__next__") hi.typeIs F.slot_tuple_iterator_next (wpAny_call_entry F.slot_tuple_iterator_next hi.typeIs F.entry_tuple_iterator_next ?_ (F.args_tuple_iterator_next_1 _)))
 show wpAny (model P w) _ (field (.ref it) 0 >>= _) _ _ s
 refine wpAny_bind (wpAny_field hoi hdi (x:=.ref t) rfl ?_)
 show wpAny (model P w) _ (if (Value.ref t == Value.none)=true then _ else _) _ _ s
 rw [if_neg (by exact Bool.false_ne_true)]
 show wpAny (model P w) _ (field (.ref it) 1 >>= _) _ _ s
 refine wpAny_bind (wpAny_field hoi hdi (x:=.int i 0) rfl ?_)
 show wpAny (model P w) _ (seqItems? (.ref t) >>= _) _ _ s
 refine wpAny_bind (wpAny_seqItems hot hdt ?_)
 simp only [Int.toNat_natCast,hx]
 refine wpAny_bind (wpAny_rule (wpAny_bind (wpAny_setField hoi hdi (by simp) ?_)))
 show wpAny (model P w) _ (newExc (.type "StopIteration") [] >>= _) _ _ _
 refine wpAny_bind ?_
 simp only [newExc,newTuple]
 refine wpAny_bind (wpAny_newObj_type ?_ (by size_fits))
 refine wpAny_bind (m:=firstArgMember _ _) (wpAny_of_eq (a:=Value.none) (by first | rfl | (simp only [firstArgMember]; rfl)) ?_)
 refine wpAny_newObj_type ?_ (by size_fits)
 simp only [raiseNew]
 refine wpAny_bind (wpAny_handled ?_)
 first | rw [show A.in1.handled=none from hh] | rw [hh]
 refine wpAny_bind (wpAny_pure (wpAny_throw ?_))
 exact hE _ _ (((Heap.SameBut.update ..).extBut.push _).push _) ⟨_,Heap.get?_push_size _ rfl,rfl⟩
end
theorem wj {P:Program} {w:World} (l:Addr):SubF P w l { cls:=.type "tuple_iterator",data:=.fields #[.ref l,.int 0 0] } (fun h vs=>h.IsTuple l vs) (fun it i h=>h.IsTupleIter it l i) where
 start:=fun A s vs Q E hl hq=>wpAny_pyIter_tuple hl hq
 first:=fun it h e=>⟨_,e,rfl,rfl⟩
 atK:=fun it i h h' x k=>let ⟨o,ho,r⟩:=x; ⟨o,k o ho,r⟩
 srcK:=fun h h' vs x k=>let ⟨o,ho,r⟩:=x; ⟨o,k o ho,r⟩
 obj:=fun it i h x=>by
   obtain ⟨o,ho,_,hd⟩:=x
   exact ⟨o,ho,fun v z=>by rw [hd] at z; cases z⟩
 item:=fun A s it i vs x Q E ha hs hx hq=>jS ha hs hx hq
 fin:=fun A s it i vs Q E hh ha hs hx hq=>kF hh ha hs hx hq
end L2
set_option Elab.async false
set_option linter.all false
set_option maxRecDepth 100000
namespace L2
open PySem PySem.Spec PyProof.Rows
structure ZAp (z TI TO i1 i2 l1 l2:Addr):Prop where
 a1:TI≠z
 a2:TO≠z
 a3:i1≠z
 a4:i2≠z
 a5:TI≠TO
 a6:TI≠i1
 a7:TI≠i2
 a8:TO≠i1
 a9:TO≠i2
 a0:i1≠i2
 b1:l1≠z∧l1≠TO∧l1≠i1∧l1≠i2
 b2:l2≠z∧l2≠TO∧l2≠i1∧l2≠i2
section
variable {P:Program} {w:World} {A:Around} {E:Value→Shared→Prop} {s:Shared} {l1 l2:Addr} {ob1 ob2:Obj} {src1 src2:Heap→Array Value→Prop} {at1 at2:Addr→Nat→Heap→Prop}
theorem pG (S1:SubF P w l1 ob1 src1 at1) (S2:SubF P w l2 ob2 src2 at2) {z TI TO i1 i2:Addr} {k1 k2:Nat} {xs ys:Array Value} {x y a b:Value} {Q:Value→Shared→Prop} (D:ZAp z TI TO i1 i2 l1 l2)
   (Hz:IsZip s.heap z TI TO .none) (HI:IsPair s.heap TI (.ref i1) (.ref i2)) (HO':IsPair s.heap TO a b) (p1:at1 i1 k1 s.heap) (p2:at2 i2 k2 s.heap) (q1:src1 s.heap xs) (q2:src2 s.heap ys) (hx:xs[k1]?=some x) (hy:ys[k2]?=some y)
   (hQ:∀ h',IsZip h' z TI TO (rawInt s.heap.objs.size)→IsPair h' TO x y→at1 i1 (k1 + 1) h'→at2 i2 (k2 + 1) h'→IsPair h' s.heap.objs.size x y→h'.objs.size=s.heap.objs.size + 1 →
     (∀ c o,c≠z→c≠TO→c≠i1→c≠i2→s.heap.get? c=some o→h'.get? c=some o)→Q (.ref s.heap.objs.size) { s with heap:=h' }) :
   wpAny (model P w) A (Builtin.«zip.__next__» ⟨[.ref z],[]⟩) (fun fn s'=>∃ v,fn=.done (.ret v)∧Q v s') E s:=by
 show wpAny (model P w) _ (field (.ref z) 2 >>= _) _ _ _
 refine wpAny_bind (wpAny_field Hz rfl (x:=.bool false) rfl ?_)
 show wpAny (model P w) _ (field (.ref z) 3 >>= _) _ _ _
 refine wpAny_bind (wpAny_field Hz rfl (x:=.ref TI) rfl ?_)
 refine wpAny_bind (wpAny_seqItems HI rfl ?_)
 show wpAny (model P w) _ (Builtin.SmallTypes.ownedTupleIsFree (.ref z) >>= _) _ _ _
 refine wpAny_bind ?_
 unfold Builtin.SmallTypes.ownedTupleIsFree
 refine wpAny_bind (wpAny_field Hz rfl (x:=.none) rfl (wpAny_pure ?_))
 simp only [if_true]
 refine wpAny_bind (wpAny_rule ?_)
 refine wpAny_bind (wpAny_field Hz rfl (x:=.ref TO) rfl ?_)
 refine wpAny_bind (wpAny_setField_rec Hz (by simp) fun g1 z1 e1=>?_)
 replace z1:IsZip g1 z TI TO .ellipsis:=z1
 refine wpAny_bind ?_
 simp only [List.zipIdx_cons,List.zipIdx_nil,List.forIn_cons,List.forIn_nil]
 refine wpAny_bind (wpAny_bind (wpAny_onRaise ?_))
 show wpAny (model P w) _ (Builtin.SmallTypes.nextOf (.ref i1) >>= _) _ _ _
 refine wpAny_bind (S1.item _ { s with heap:=g1 } i1 k1 xs x _ _ (S1.atK _ _ _ _ p1 fun o e=>e1.extBut _ _ D.a3 e) (S1.srcK _ _ _ q1 fun o e=>e1.extBut _ _ D.b1.1 e) hx fun g2 p1b e2=>wpAny_pure ?_)
 have o2:IsPair g2 TO a b:=e2.extBut _ _ D.a8 (e1.extBut _ _ D.a2 HO')
 refine wpAny_bind (wpAny_seqItems o2 rfl ?_)
 refine wpAny_bind (wpAny_updateSeq_pair o2 fun g3 o3 e3=>?_)
 replace o3:IsPair g3 TO x b:=o3
 refine wpAny_bind (wpAny_letGo (wpAny_pure ?_))
 refine wpAny_bind (wpAny_bind (wpAny_onRaise ?_))
 show wpAny (model P w) _ (Builtin.SmallTypes.nextOf (.ref i2) >>= _) _ _ _
 refine wpAny_bind (S2.item _ { s with heap:=g3 } i2 k2 ys y _ _ (S2.atK _ _ _ _ p2 fun o e=>e3.extBut _ _ D.a9.symm (e2.extBut _ _ D.a0.symm (e1.extBut _ _ D.a4 e))) (S2.srcK _ _ _ q2 fun o e=>e3.extBut _ _ D.b2.2.1 (e2.extBut _ _ D.b2.2.2.1 (e1.extBut _ _ D.b2.1 e))) hy fun g4 p2b e4=>wpAny_pure ?_)
 have o4:IsPair g4 TO x b:=e4.extBut _ _ D.a9 o3
 refine wpAny_bind (wpAny_seqItems o4 rfl ?_)
 refine wpAny_bind (wpAny_updateSeq_pair o4 fun g5 o5 e5=>?_)
 replace o5:IsPair g5 TO x y:=o5
 refine wpAny_bind (wpAny_letGo (wpAny_pure (wpAny_pure ?_)))
 refine wpAny_bind (wpAny_seqItems o5 rfl ?_)
 refine wpAny_bind (wpAny_newTuple ?_)
 have sz:g5.objs.size=s.heap.objs.size:=by rw [e5.1,e4.1,e3.1,e2.1,e1.1]
 have z5:IsZip g5 z TI TO .ellipsis:=e5.extBut _ _ D.a2.symm (e4.extBut _ _ D.a4.symm (e3.extBut _ _ D.a2.symm (e2.extBut _ _ D.a3.symm z1)))
 have k5:∀ c o,c≠z→c≠TO→c≠i1→c≠i2→s.heap.get? c=some o→g5.get? c=some o:=fun c o c1 c2 c3 c4 e =>
   e5.extBut _ _ c2 (e4.extBut _ _ c4 (e3.extBut _ _ c2 (e2.extBut _ _ c3 (e1.extBut _ _ c1 e))))
 have p15:at1 i1 (k1 + 1) g5:=S1.atK _ _ _ _ p1b fun o e=>e5.extBut _ _ D.a8.symm (e4.extBut _ _ D.a0 (e3.extBut _ _ D.a8.symm e))
 have p25:at2 i2 (k2 + 1) g5:=S2.atK _ _ _ _ p2b fun o e=>e5.extBut _ _ D.a9.symm e
 have zlt:z < g5.objs.size:=Heap.lt_size z5
 show wpAny (model P w) _ (Builtin.SmallTypes.ownedTupleHandOut (.ref z) (.ref g5.objs.size) >>= _) _ _ _
 refine wpAny_bind ?_
 unfold Builtin.SmallTypes.ownedTupleHandOut
 have z6:IsZip (g5.push { cls:=.type "tuple",data:=.seq #[x,y] }) z TI TO .ellipsis:=Heap.get?_push_of_some _ z5
 refine wpAny_bind (wpAny_setField_rec z6 (by simp) fun g7 z7 e7=>?_)
 replace z7:IsZip g7 z TI TO (rawInt g5.objs.size):=z7
 refine wpAny_setField_rec z7 (by simp) fun g8 z8 e8=>?_
 replace z8:IsZip g8 z TI TO (rawInt g5.objs.size):=z8
 have up:∀ c o,c≠z→g5.get? c=some o→g8.get? c=some o:=fun c o c1 e=>e8.extBut _ _ c1 (e7.extBut _ _ c1 (Heap.get?_push_of_some _ e))
 have t8:IsPair g8 g5.objs.size x y:=e8.extBut _ _ (Nat.ne_of_gt zlt) (e7.extBut _ _ (Nat.ne_of_gt zlt) (Heap.get?_push_size _ rfl))
 have s8:g8.objs.size=g5.objs.size + 1:=by rw [e8.1,e7.1,Heap.size_push]
 rw [sz] at z8 t8 s8
 refine wpAny_pure ⟨_,rfl,?_⟩
 show Q (.ref g5.objs.size) _
 rw [sz]
 exact hQ g8 z8 (up _ _ D.a2 o5) (S1.atK _ _ _ _ p15 fun o e=>up _ o D.a3 e) (S2.atK _ _ _ _ p25 fun o e=>up _ o D.a4 e) t8 s8 fun c o c1 c2 c3 c4 e=>up c o c1 (k5 c o c1 c2 c3 c4 e)
theorem qd (S1:SubF P w l1 ob1 src1 at1) (S2:SubF P w l2 ob2 src2 at2) {z TI TO i1 i2:Addr} {k1 k2:Nat} {xs ys:Array Value} {a b:Value} {Q:Fin→Shared→Prop} (hh:A.handled=none) (D:ZAp z TI TO i1 i2 l1 l2)
   (Hz:IsZip s.heap z TI TO .none) (HI:IsPair s.heap TI (.ref i1) (.ref i2)) (HO':IsPair s.heap TO a b) (p1:at1 i1 k1 s.heap) (p2:at2 i2 k2 s.heap) (q1:src1 s.heap xs) (q2:src2 s.heap ys) (hend:xs[k1]?=none∨ys[k2]?=none)
   (hE:∀ h' e,(∀ c o,c≠z→c≠TO→c≠i1→c≠i2→s.heap.get? c=some o→h'.get? c=some o)→(∃ o,h'.get? e=some o∧o.cls=.type "StopIteration")→E (.ref e) { s with heap:=h' }) :
   wpAny (model P w) A (Builtin.«zip.__next__» ⟨[.ref z],[]⟩) Q E s:=by
 show wpAny (model P w) _ (field (.ref z) 2 >>= _) _ _ _
 refine wpAny_bind (wpAny_field Hz rfl (x:=.bool false) rfl ?_)
 show wpAny (model P w) _ (field (.ref z) 3 >>= _) _ _ _
 refine wpAny_bind (wpAny_field Hz rfl (x:=.ref TI) rfl ?_)
 refine wpAny_bind (wpAny_seqItems HI rfl ?_)
 show wpAny (model P w) _ (Builtin.SmallTypes.ownedTupleIsFree (.ref z) >>= _) _ _ _
 refine wpAny_bind ?_
 unfold Builtin.SmallTypes.ownedTupleIsFree
 refine wpAny_bind (wpAny_field Hz rfl (x:=.none) rfl (wpAny_pure ?_))
 simp only [if_true]
 refine wpAny_bind (wpAny_rule ?_)
 refine wpAny_bind (wpAny_field Hz rfl (x:=.ref TO) rfl ?_)
 refine wpAny_bind (wpAny_setField_rec Hz (by simp) fun g1 z1 e1=>?_)
 replace z1:IsZip g1 z TI TO .ellipsis:=z1
 refine wpAny_bind ?_
 simp only [List.zipIdx_cons,List.zipIdx_nil,List.forIn_cons,List.forIn_nil]
 refine wpAny_bind (wpAny_bind (wpAny_onRaise ?_))
 show wpAny (model P w) _ (Builtin.SmallTypes.nextOf (.ref i1) >>= _) _ _ _
 have p1a:at1 i1 k1 g1:=S1.atK _ _ _ _ p1 fun o e=>e1.extBut _ _ D.a3 e
 have q1a:src1 g1 xs:=S1.srcK _ _ _ q1 fun o e=>e1.extBut _ _ D.b1.1 e
 cases hx:xs[k1]? with
 | none =>
   refine wpAny_bind (S1.fin _ { s with heap:=g1 } i1 k1 xs _ _ hh p1a q1a hx fun g2 e e2 he=>?_)
   obtain ⟨oe,hoe,hce⟩:=he
   have z2:IsZip g2 z TI TO .ellipsis:=e2 _ _ D.a3.symm z1
   have ez:e≠z:=fun t=>by subst t; rw [z2] at hoe; cases hoe; simp at hce
   refine wpAny_setField_rec z2 (by simp) fun g3 _ e3=>hE g3 e (fun c o c1 _ c3 _ t=>e3.extBut _ _ c1 (e2 _ _ c3 (e1.extBut _ _ c1 t))) ⟨oe,e3.extBut _ _ ez hoe,hce⟩
 | some x =>
   have hy:ys[k2]?=none:=by
     rcases hend with h | h
     · rw [hx] at h; cases h
     · exact h
   refine wpAny_bind (S1.item _ { s with heap:=g1 } i1 k1 xs x _ _ p1a q1a hx fun g2 p1b e2=>wpAny_pure ?_)
   have o2:IsPair g2 TO a b:=e2.extBut _ _ D.a8 (e1.extBut _ _ D.a2 HO')
   refine wpAny_bind (wpAny_seqItems o2 rfl ?_)
   refine wpAny_bind (wpAny_updateSeq_pair o2 fun g3 o3 e3=>?_)
   refine wpAny_bind (wpAny_letGo (wpAny_pure ?_))
   refine wpAny_bind (wpAny_bind (wpAny_onRaise ?_))
   show wpAny (model P w) _ (Builtin.SmallTypes.nextOf (.ref i2) >>= _) _ _ _
   refine wpAny_bind (S2.fin _ { s with heap:=g3 } i2 k2 ys _ _ hh (S2.atK _ _ _ _ p2 fun o e=>e3.extBut _ _ D.a9.symm (e2.extBut _ _ D.a0.symm (e1.extBut _ _ D.a4 e))) (S2.srcK _ _ _ q2 fun o e=>e3.extBut _ _ D.b2.2.1 (e2.extBut _ _ D.b2.2.2.1 (e1.extBut _ _ D.b2.1 e))) hy fun g4 e e4 he=>?_)
   obtain ⟨oe,hoe,hce⟩:=he
   have z4:IsZip g4 z TI TO .ellipsis:=e4 _ _ D.a4.symm (e3.extBut _ _ D.a2.symm (e2.extBut _ _ D.a3.symm z1))
   have ez:e≠z:=fun t=>by subst t; rw [z4] at hoe; cases hoe; simp at hce
   refine wpAny_setField_rec z4 (by simp) fun g5 _ e5=>hE g5 e (fun c o c1 c2 c3 c4 t=>e5.extBut _ _ c1 (e4 _ _ c4 (e3.extBut _ _ c2 (e2.extBut _ _ c3 (e1.extBut _ _ c1 t))))) ⟨oe,e5.extBut _ _ ez hoe,hce⟩
abbrev zp1 (h:Heap) (ob1 ob2:Obj):Heap:=(h.push ob1).push ob2
abbrev zp2 (h:Heap) (ob1 ob2:Obj):Heap:=(zp1 h ob1 ob2).push { cls:=.type "tuple",data:=.seq #[.ref h.objs.size,.ref (h.push ob1).objs.size] }
abbrev zp3 (h:Heap) (ob1 ob2:Obj):Heap:=(zp2 h ob1 ob2).push { cls:=.type "tuple",data:=.seq #[.none,.none] }
abbrev zp4 (h:Heap) (ob1 ob2:Obj):Heap:=(zp3 h ob1 ob2).push { cls:=.type "zip",data:=.fields #[.none,.bool false,.bool false,.ref (zp1 h ob1 ob2).objs.size,.ref (zp2 h ob1 ob2).objs.size] }
theorem nI (S1:∀ P w,SubF P w l1 ob1 src1 at1) (S2:∀ P w,SubF P w l2 ob2 src2 at2) (ne:∀ h vs,src2 h vs→∃ o,h.get? l2=some o) (xs ys:Array Value) :
   Meets (Builtin.«zip.__new__» ⟨[.type "zip",.ref l1,.ref l2],[]⟩) (fun _ R s=>src1 s.heap xs∧src2 s.heap ys∧R (.ok (.ret (.ref (zp3 s.heap ob1 ob2).objs.size))) { s with heap:=zp4 s.heap ob1 ob2 }) :=
 .of_wp fun prog w A R s hyp=>by
   obtain ⟨hp,g,d,tk,os⟩:=s
   obtain ⟨q1,q2,r⟩:=hyp
   have zsub:=sub_zip
   have B1:src1 (Shared.heap ⟨hp,g,d,tk,os⟩) xs:=q1
   have B2:src2 (Shared.heap ⟨hp.push ob1,g,d,tk,os⟩) ys:=(S2 prog w).srcK _ _ _ q2 fun o e=>Heap.get?_push_of_some _ e
   wp_walk using ((S1 prog w).start _ _ _ _ _ B1),((S2 prog w).start _ _ _ _ _ B2)
   exact ⟨_,rfl,r⟩
theorem xZ (S1:∀ P w,SubF P w l1 ob1 src1 at1) (S2:∀ P w,SubF P w l2 ob2 src2 at2) (ne:∀ h vs,src2 h vs→∃ o,h.get? l2=some o) {xs ys:Array Value} {Q:Value→Shared→Prop} (q1:src1 s.heap xs) (q2:src2 s.heap ys)
   (h:∀ h',IsZip h' (s.heap.objs.size + 4) (s.heap.objs.size + 2) (s.heap.objs.size + 3) .none→IsPair h' (s.heap.objs.size + 2) (.ref s.heap.objs.size) (.ref (s.heap.objs.size + 1)) →
     IsPair h' (s.heap.objs.size + 3) .none .none→at1 s.heap.objs.size 0 h'→at2 (s.heap.objs.size + 1) 0 h' →
     (∀ c o,s.heap.get? c=some o→h'.get? c=some o)→Q (.ref (s.heap.objs.size + 4)) { s with heap:=h' }) (f1:ob1.isFreed=false) (f2:ob2.isFreed=false) :
   wpAny (model P w) A (call (.type "zip") [.ref l1,.ref l2]) Q E s:=by
 refine callType_new F.called_zip (by decide) (F.typeCall_zip_2 _ _) (F.newCall_zip_2 _ _) (fun obj=>F.args_object_init_3 obj _ _) F.entry_zip_new (nI S1 S2 ne xs ys) ⟨q1,q2,?_⟩
 have n0:(s.heap.push ob1).objs.size=s.heap.objs.size + 1:=Heap.size_push ..
 have n1:(zp1 s.heap ob1 ob2).objs.size=s.heap.objs.size + 2:=by rw [Heap.size_push,n0]
 have n2:(zp2 s.heap ob1 ob2).objs.size=s.heap.objs.size + 3:=by rw [Heap.size_push,n1]
 have n3:(zp3 s.heap ob1 ob2).objs.size=s.heap.objs.size + 4:=by rw [Heap.size_push,n2]
 have c5:(zp4 s.heap ob1 ob2).get? (zp3 s.heap ob1 ob2).objs.size=some _:=Heap.get?_push_size _ rfl
 have c4:(zp4 s.heap ob1 ob2).get? (zp2 s.heap ob1 ob2).objs.size=some _:=Heap.get?_push_of_some _ (Heap.get?_push_size _ rfl)
 have c3:(zp4 s.heap ob1 ob2).get? (zp1 s.heap ob1 ob2).objs.size=some _:=Heap.get?_push_of_some _ (Heap.get?_push_of_some _ (Heap.get?_push_size _ rfl))
 have c2:(zp4 s.heap ob1 ob2).get? (s.heap.push ob1).objs.size=some ob2:=Heap.get?_push_of_some _ (Heap.get?_push_of_some _ (Heap.get?_push_of_some _ (Heap.get?_push_size _ f2)))
 have c1:(zp4 s.heap ob1 ob2).get? s.heap.objs.size=some ob1:=Heap.get?_push_of_some _ (Heap.get?_push_of_some _ (Heap.get?_push_of_some _ (Heap.get?_push_of_some _ (Heap.get?_push_size _ f1))))
 show _∧_
 rw [n1,n2,n3] at c5
 rw [n0,n1] at c3
 rw [n2] at c4
 rw [n0] at c2
 rw [n3]
 exact ⟨⟨_,c5,rfl⟩,h _ c5 c3 c4 ((S1 P w).first _ _ c1) ((S2 P w).first _ _ c2) fun c o e=>Heap.get?_push_of_some _ (Heap.get?_push_of_some _ (Heap.get?_push_of_some _ (Heap.get?_push_of_some _ (Heap.get?_push_of_some _ e))))⟩
end
def SqX (K:PySem.W.Frag):Bool→Hp→Addr→List V→Prop
 | true,H,a,xs=>SqL K H a xs
 | false,H,a,xs=>SqT K H a xs
def Itz (K:PySem.W.Frag) (c d:Bool) (a b:Addr):It :=
 ⟨fun i H=>∃ xs ys x y,SqX K c H a xs∧SqX K d H b ys∧xs[i]?=some x∧ys[i]?=some y,
  fun i H v H'=>∃ p x y,H p=none∧v=.ref p∧H'=upd H p (.tup [x,y])∧(∀ xs,SqX K c H a xs→xs[i]?=some x)∧∀ ys,SqX K d H b ys→ys[i]?=some y,
  fun i H=>∃ xs ys,SqX K c H a xs∧SqX K d H b ys∧(xs.length≤i∨ys.length≤i)⟩
def AF (a:Addr):Bool→Obj
 | true=>{ cls:=.type "list_iterator",data:=.fields #[.ref a,.int 0 0] }
 | false=>{ cls:=.type "tuple_iterator",data:=.fields #[.ref a,.int 0 0] }
def se (a:Addr):Bool→Heap→Array Value→Prop
 | true,h,vs=>h.IsList a vs
 | false,h,vs=>h.IsTuple a vs
def zAt (a:Addr):Bool→Addr→Nat→Heap→Prop
 | true,it,i,h=>h.IsListIter it a i
 | false,it,i,h=>h.IsTupleIter it a i
theorem cL (a:Addr) (c:Bool) (P:Program) (w:World):SubF P w a (AF a c) (se a c) (zAt a c):=by
 cases c
 · exact wj a
 · exact sJ a
theorem jB (a:Addr) (c:Bool):(AF a c).isFreed=false:=by cases c <;> rfl
theorem f6 (a:Addr) (c:Bool) (h:Heap) (vs:Array Value) (e:se a c h vs):∃ o,h.get? a=some o:=by
 cases c
 · obtain ⟨o,ho,_⟩:=e; exact ⟨o,ho⟩
 · obtain ⟨o,ho,_⟩:=e; exact ⟨o,ho⟩
theorem Inv.sqX {X:Cx} {pins:List (Addr × Obj)} {σ:St} {H:Hp} {s:Shared} {c:Bool} {a:Addr} {xs:List V} (I:Inv X pins σ H s) (h:SqX X.K c H a xs):∃ its:List Value,Vals xs its∧se a c s.heap its.toArray:=by
 cases c with
 | true =>
   obtain ⟨its,r,pl,_⟩:=I.list h
   exact ⟨its,r,pl.isList⟩
 | false =>
   obtain ⟨its,r,⟨o,ho,hc,n,hd⟩,_⟩:=I.tuple h
   exact ⟨its,r,⟨o,ho,hc,n,hd⟩⟩
theorem Inv.sqX_inj {X:Cx} {pins:List (Addr × Obj)} {σ:St} {H:Hp} {s:Shared} {c:Bool} {a:Addr} {xs ys:List V} (I:Inv X pins σ H s) (h:SqX X.K c H a xs) (h':SqX X.K c H a ys):xs=ys:=by
 cases c with
 | true=>exact I.list_inj h h'
 | false=>exact I.tuple_inj h h'
theorem xU {P:Program} {w:World} {K:PySem.W.Frag} {elts:List Expr} {x1} {tpos:Pos} (c d:Bool) (a b z TI TO i1 i2:Addr) (D:ZAp z TI TO i1 i2 a b) :
   Turn P w K (.Tuple elts x1 tpos) (Itz K c d a b) [z,TI,TO,i1,i2] z (fun i h=>IsZip h z TI TO .none∧IsPair h TI (.ref i1) (.ref i2)∧(∃ u v,IsPair h TO u v)∧zAt a c i1 i h∧zAt b d i2 i h) where
 mem:=by simp
 obj:=fun i h t e he=>by
   obtain ⟨t1,t2,⟨u,v,t3⟩,t4,t5⟩:=t
   simp only [List.mem_cons,List.mem_nil_iff,or_false] at he
   rcases he with rfl | rfl | rfl | rfl | rfl
   · exact ⟨_,t1,fun v z=>by cases z⟩
   · exact ⟨_,t2,fun v z=>by cases z⟩
   · exact ⟨_,t3,fun v z=>by cases z⟩
   · exact (cL a c P w).obj _ _ _ t4
   · exact (cL b d P w).obj _ _ _ t5
 keep:=fun i h h' t k=>by
   obtain ⟨t1,t2,⟨u,v,t3⟩,t4,t5⟩:=t
   exact ⟨k z (by simp) _ t1,k TI (by simp) _ t2,⟨u,v,k TO (by simp) _ t3⟩,(cL a c P w).atK _ _ _ _ t4 fun o e=>k i1 (by simp) o e,(cL b d P w).atK _ _ _ _ t5 fun o e=>k i2 (by simp) o e⟩
 item:=fun X e1 e2 e3 hc i pins s σ H E I f t g=>by
   subst e1 e2 e3
   obtain ⟨t1,t2,⟨u,v,t3⟩,t4,t5⟩:=t
   obtain ⟨xs,ys,x,y,s1,s2,hx,hy⟩:=g
   obtain ⟨us,r1,q1⟩:=I.sqX s1
   obtain ⟨vs,r2,q2⟩:=I.sqX s2
   obtain ⟨xu,hxu,rx⟩:=r1.get hx
   obtain ⟨yu,hyu,ry⟩:=r2.get hy
   have hT:s.TypeIs (.ref z) "zip":=⟨_,t1,rfl⟩
   unfold pyNext
   refine wpAny_bind (wpAny_attempt (wpAny_callSpecial?_slot (name:=Str.ofString "__next__") hT F.slot_zip_next (wpAny_call_entry F.slot_zip_next hT F.entry_zip_next
     (pG (cL a c _ _) (cL b d _ _) D t1 t2 t3 t4 t5 q1 q2 (x:=xu) (y:=yu) (by simpa using hxu) (by simpa using hyu) fun h' w1 w2 w3 w4 w5 w6 w7=>wpAny_pure ?_) (F.args_zip_next_1 _))))
   refine ⟨_,rfl,wpAny_letOwnedTupleGo_zip w1 fun h2 n1 n2=>?_⟩
   have fz:∀ q∈[z,TI,TO,i1,i2],dZ X pins H q:=f
   have lt0:s.heap.objs.size≠z:=Nat.ne_of_gt (Heap.lt_size t1)
   have new:IsPair h2 s.heap.objs.size xu yu:=n2.extBut _ _ lt0 w5
   have kp:∀ q o,q ∉ [z,TI,TO,i1,i2]→s.heap.get? q=some o→h2.get? q=some o:=fun q o hq e=>by
     simp only [List.mem_cons,List.mem_nil_iff,or_false,not_or] at hq
     exact n2.extBut _ _ hq.1 (w7 q o hq.1 hq.2.2.1 hq.2.2.2.1 hq.2.2.2.2 e)
   have kTI:h2.get? TI=some _:=n2.extBut _ _ D.a1 (w7 TI _ D.a1 D.a5 D.a6 D.a7 t2)
   have Hn:∀ q u,H q=some u→q ∉ [z,TI,TO,i1,i2]:=fun q u e hq=>by rw [(fz q hq).1] at e; cases e
   have I2:Inv X pins σ H { s with heap:=h2 }:=by
     refine I.step (g':=s.gens) (d':=s.drawn) (t':=s.toks) (ch:=[z,TI,TO,i1,i2]) (fun q hq=>⟨(fz q hq).2.2.2.1,(fz q hq).2.1,(fz q hq).2.2.2.2.1,(fz q hq).2.2.2.2.2⟩) (fun q o _ _ hq e _=>kp q o hq e) (fun q o _ _ hq e _=>⟨o.slots,kp q o hq e⟩) (fun _ _ _ _ n=>n)
       (fun q o hq e=>⟨o,kp q o hq e⟩) (fun _ _ e=>e) (fun _ _ _ e=>e) (fun q ps e=>⟨#[],by rw [e]; simp⟩) (fun m hm=>?_) (fun q u e=>?_) I.bare
     · obtain ⟨o,es,ep,ho,r⟩:=hm
       exact ⟨o,es,ep,kp _ o (fun hq=>(fz _ hq).2.1 rfl) ho,r⟩
     · refine (I.hok q u e).stay (fun q' v hq' e'=>kp q' v ?_ e') (fun _ e'=>e') fun _ _ e'=>e'
       rcases hq' with rfl | hq'
       · exact Hn _ u e
       · exact Hn _ _ hq'
   have nH:H s.heap.objs.size=none:=I.fresh
   have I3:Inv X pins σ (upd H s.heap.objs.size (.tup [x,y])) { s with heap:=h2 }:=by
     refine ⟨I2.ok,I2.os,I2.bare,?_,I2.loc,I2.cell,?_,fun n c e=>?_,fun p hp=>?_,fun q u e=>?_,I2.len⟩
     · refine ⟨I2.base.keep,I2.base.slot,fun q o e n hx=>?_,I2.base.there,fun q xs e=>?_,fun q o u e=>?_,fun q ps e=>?_⟩
       · have lt:q < X.s₀.heap.objs.size:=Heap.lt_size e
         rw [ap (Nat.ne_of_lt (Nat.lt_of_lt_of_le lt I.sz))]
         exact I2.base.free q o e n hx
       · have e':=I2.base.tups q xs e
         rw [ap (fun z=>by rw [z,nH] at e'; cases e')]
         exact e'
       · have e':=I2.base.frzs q o u e
         rw [ap (fun z=>by rw [z,nH] at e'; cases e')]
         exact e'
       · obtain ⟨more,e'⟩:=I2.base.tbls q ps e
         exact ⟨more,by rw [ap (fun z=>by rw [z,nH] at e'; cases e')]; exact e'⟩
     · rw [ap (Nat.ne_of_lt I.lt)]
       exact I2.free
     · obtain ⟨vv,o,ho,_⟩:=I.cell n c e
       rw [ap (Nat.ne_of_lt (Heap.lt_size ho))]
       exact I2.freeC n c e
     · obtain ⟨k1,k2,k3⟩:=I.pin p hp
       rw [ap (Nat.ne_of_lt (Heap.lt_size k1))]
       exact I2.pin p hp
     · by_cases hq:q=s.heap.objs.size
       · subst hq
         rw [ah] at e; cases e
         exact ⟨by show 2≤sizeLine; decide,[xu,yu],.cons rx (.cons ry .nil),_,new,rfl,_,rfl⟩
       · rw [ap hq] at e
         refine (I2.hok q u e).stay (fun _ _ _ e'=>e') (fun q' e'=>?_) fun q' xs e'=>?_
         · rw [ap (fun z=>by rw [z,nH] at e'; cases e')]; exact e'
         · rw [ap (fun z=>by rw [z,nH] at e'; cases e')]; exact e'
   refine ⟨.ref s.heap.objs.size,_,I3,rfl,⟨_,x,y,nH,rfl,rfl,fun xs' q=>?_,fun ys' q=>?_⟩,⟨n1,kTI,⟨_,_,n2.extBut _ _ D.a2 w2⟩,(cL a c X.prog X.w).atK _ _ _ _ w3 fun o e=>n2.extBut _ _ D.a3 e,(cL b d X.prog X.w).atK _ _ _ _ w4 fun o e=>n2.extBut _ _ D.a4 e⟩,fun q hq=>?_⟩
   · rw [← I.sqX_inj s1 q]; exact hx
   · rw [← I.sqX_inj s2 q]; exact hy
   · have hlt:q < s.heap.objs.size:=by
       simp only [List.mem_cons,List.mem_nil_iff,or_false] at hq
       rcases hq with rfl | rfl | rfl | rfl | rfl
       · exact Heap.lt_size t1
       · exact Heap.lt_size t2
       · exact Heap.lt_size t3
       · exact let ⟨o,e,_⟩:=(cL a c X.prog X.w).obj _ _ _ t4; Heap.lt_size e
       · exact let ⟨o,e,_⟩:=(cL b d X.prog X.w).obj _ _ _ t5; Heap.lt_size e
     rw [ap (Nat.ne_of_lt hlt)]
     exact (fz q hq).1
 done:=fun X e1 e2 e3 hc i pins s σ H E I f t g=>by
   subst e1 e2 e3
   obtain ⟨t1,t2,⟨u,v,t3⟩,t4,t5⟩:=t
   obtain ⟨xs,ys,s1,s2,hend⟩:=g
   obtain ⟨us,r1,q1⟩:=I.sqX s1
   obtain ⟨vs,r2,q2⟩:=I.sqX s2
   have fz:∀ q∈[z,TI,TO,i1,i2],dZ X pins H q:=f
   have hh:X.A.handled=none:=I.ok.hd hc
   have hT:s.TypeIs (.ref z) "zip":=⟨_,t1,rfl⟩
   have hend':us.toArray[i]?=none∨vs.toArray[i]?=none:=by
     rcases hend with e | e
     · exact .inl (by have:=r1.length; simp; omega)
     · exact .inr (by have:=r2.length; simp; omega)
   unfold pyNext
   refine wpAny_bind (wpAny_attempt (wpAny_callSpecial?_slot (name:=Str.ofString "__next__") hT F.slot_zip_next (wpAny_call_entry F.slot_zip_next hT F.entry_zip_next
     (qd (cL a c _ _) (cL b d _ _) hh D t1 t2 t3 t4 t5 q1 q2 hend' fun h' e hk he=>?_) (F.args_zip_next_1 _))))
   obtain ⟨o,ho,hcl⟩:=he
   refine wpAny_bind (wpAny_isInstance (T:="StopIteration") (b:=true) ⟨o,ho,hcl⟩ isSubtype_stop (wpAny_pure ⟨rfl,?_⟩))
   have kp:∀ q o,q ∉ [z,TI,TO,i1,i2]→s.heap.get? q=some o→h'.get? q=some o:=fun q o hq e=>by
     simp only [List.mem_cons,List.mem_nil_iff,or_false,not_or] at hq
     exact hk q o hq.1 hq.2.2.1 hq.2.2.2.1 hq.2.2.2.2 e
   have Hn:∀ q u,H q=some u→q ∉ [z,TI,TO,i1,i2]:=fun q u e hq=>by rw [(fz q hq).1] at e; cases e
   refine I.step (g':=s.gens) (d':=s.drawn) (t':=s.toks) (ch:=[z,TI,TO,i1,i2]) (fun q hq=>⟨(fz q hq).2.2.2.1,(fz q hq).2.1,(fz q hq).2.2.2.2.1,(fz q hq).2.2.2.2.2⟩) (fun q o _ _ hq e _=>kp q o hq e) (fun q o _ _ hq e _=>⟨o.slots,kp q o hq e⟩) (fun _ _ _ _ n=>n)
     (fun q o hq e=>⟨o,kp q o hq e⟩) (fun _ _ e=>e) (fun _ _ _ e=>e) (fun q ps e=>⟨#[],by rw [e]; simp⟩) (fun m hm=>?_) (fun q u e=>?_) I.bare
   · obtain ⟨o,es,ep,ho,r⟩:=hm
     exact ⟨o,es,ep,kp _ o (fun hq=>(fz _ hq).2.1 rfl) ho,r⟩
   · refine (I.hok q u e).stay (fun q' v hq' e'=>kp q' v ?_ e') (fun _ e'=>e') fun _ _ e'=>e'
     rcases hq' with rfl | hq'
     · exact Hn _ u e
     · exact Hn _ _ hq'
 self:=fun A i s Q E t q=>wpAny_pyIter_zip t.1 q
end L2
set_option Elab.async false
set_option linter.all false
set_option maxRecDepth 100000
namespace L2
open PySem PySem.Spec PyProof.Rows
section
variable {X:Cx} {pins:List (Addr × Obj)} {σ:St} {H H2:Hp} {s s2:Shared} {a:Addr} {o:HO}
end
section
variable {P:Program} {w:World} {A:Around} {E:Value→Shared→Prop} {s:Shared}
end
end L2
set_option Elab.async false
set_option linter.all false
set_option maxRecDepth 100000
namespace L2
open PySem PySem.Spec PyProof.Rows
section
variable {P:Program} {w:World} {A:Around} {E:Value→Shared→Prop} {s:Shared} {R:Result→Shared→Prop}
end
section
variable {X:Cx} {e:Expr} {te:TE} {p1 p2 pos pos2:Pos}
end
end L2
set_option Elab.async false
set_option linter.all false
set_option maxRecDepth 100000
namespace L2
open PySem PySem.Spec PyProof.Rows
theorem cT {a b:Nat} (h:a < b∨b < a):a≠b:=by omega
theorem zS (n a b:Nat) (h1:a < n) (h2:b < n):ZAp (n + 4) (n + 2) (n + 3) n (n + 1) a b :=
 ⟨cT (by omega),cT (by omega),cT (by omega),cT (by omega),cT (by omega),cT (by omega),cT (by omega),cT (by omega),cT (by omega),cT (by omega),⟨cT (by omega),cT (by omega),cT (by omega),cT (by omega)⟩,⟨cT (by omega),cT (by omega),cT (by omega),cT (by omega)⟩⟩
section
variable {X:Cx}
def vo (K:PySem.W.Frag) (c d:Bool) (ta:TA):TI:=fun σ H R=>ta σ H fun vs H1=>∃ a b,vs=[.ref a,.ref b]∧(∃ xs,SqX K c H1 a xs)∧(∃ ys,SqX K d H1 b ys)∧R (Itz K c d a b) H1
theorem zC {elts:List Expr} {x1} {tpos:Pos} {ea eb:Expr} {ta:TA} {p pos:Pos} (c d:Bool) (hg:Gl X "zip") (hm:X.mg "zip"=none) (ha:PA X [ea,eb] ta)
   (hs:starEach [ea,eb] X.env=[(false,eval ea X.env),(false,eval eb X.env)]:=by rfl) (hs2:starEach [eb] X.env=[(false,eval eb X.env)]:=by rfl) :
   PI X (.Tuple elts x1 tpos) (.Call (.Name "zip" p) [ea,eb] [] pos) (vo X.K c d ta):=by
 intro pins s σ H R I h
 refine Call_ (fu I hg hm boot_zip (PyProof.Rows.callWith_type1 (gJ (ha pos pins s σ H _ I h) fun us s1 vs H1 I1 r1 q1=>?_) (by rw [hs,hs2]) (by rw [hs2]; rfl)))
 obtain ⟨a,b,e,⟨xs,sa⟩,⟨ys,sb⟩,q⟩:=q1
 subst e
 obtain ⟨u,v,rfl,ru,rv⟩:=om r1
 cases ru
 cases rv
 obtain ⟨us,r1,q1⟩:=I1.sqX sa
 obtain ⟨vs,r2,q2⟩:=I1.sqX sb
 obtain ⟨oa,hoa⟩:=f6 a c _ _ q1
 obtain ⟨ob,hob⟩:=f6 b d _ _ q2
 have la:=Heap.lt_size hoa
 have lb:=Heap.lt_size hob
 refine xZ (cL a c) (cL b d) (f6 b d) q1 q2 (fun h' w1 w2 w3 w4 w5 w6=>?_) (jB a c) (jB b d)
 refine wpAny_pyIter_zip w1 ?_
 have D:=zS s1.heap.objs.size a b la lb
 refine ⟨_,[s1.heap.objs.size + 4,s1.heap.objs.size + 2,s1.heap.objs.size + 3,s1.heap.objs.size,s1.heap.objs.size + 1],_,_,H1,rfl,I1.kept (t':=s1.toks) w6,xU c d a b _ _ _ _ _ D,⟨w1,w2,⟨_,_,w3⟩,w4,w5⟩,fun q hq=>?_,q⟩
 have hle:s1.heap.objs.size≤q:=by
   simp only [List.mem_cons,List.mem_nil_iff,or_false] at hq
   rcases hq with rfl | rfl | rfl | rfl | rfl
   · exact Nat.le_add_right _ 4
   · exact Nat.le_add_right _ 2
   · exact Nat.le_add_right _ 3
   · exact Nat.le_refl _
   · exact Nat.le_add_right _ 1
 exact I1.fpOk hle (I1.hok.fresh hle)
end
end L2
set_option linter.all false
namespace Pb
structure Road where
 a:Int
 b:Int
 t:Int
 u:Int
 deriving DecidableEq
def tH (m:Int) (rs:List Road):Prop:=∀ S:Int→Prop,S 0→(∀ r∈rs,(S r.a↔S r.b))→∀ v,0≤v→v < m→S v
structure RoadOk (m:Int) (r:Road):Prop where
 a0:0≤r.a
 a1:r.a < m
 b0:0≤r.b
 b1:r.b < m
 ne:r.a≠r.b
 t0:2≤r.t
 t1:r.t≤1000000
 u0:2≤r.u
 u1:r.u≤1000000
structure Good (m:Int) (rs:List Road):Prop where
 m1:1≤m
 m24:m≤24
 len:(rs.length:Int)=m - 1
 ok:∀ r∈rs,RoadOk m r
 jn:tH m rs
theorem fg {α:Type} [DecidableEq α]:∀ {l l':List α},l.Nodup→(∀ x∈l,x∈l')→l.length≤l'.length
 | [],_,_,_=>Nat.zero_le _
 | x :: r,l',hn,hs=>by
   obtain ⟨h1,h2⟩:=List.nodup_cons.mp hn
   have hx:x∈l':=hs x List.mem_cons_self
   have:r.length≤(l'.erase x).length:=fg h2 fun y hy=>(List.mem_erase_of_ne (fun (e:y=x)=>h1 (by rw [← e]; exact hy))).mpr (hs y (List.mem_cons_of_mem _ hy))
   rw [List.length_erase_of_mem hx] at this
   have hp:0 < l'.length:=List.length_pos_of_mem hx
   rw [List.length_cons]
   omega
def below (n:Nat):List Int:=(List.range n).map fun (k:Nat)=>(k:Int)
theorem mem_below {n:Nat} {v:Int}:v∈below n↔0≤v∧v < n:=by
 unfold below
 rw [List.mem_map]
 constructor
 · rintro ⟨k,hk,rfl⟩
   have:=List.mem_range.mp hk
   omega
 · rintro ⟨h0,h1⟩
   exact ⟨v.toNat,List.mem_range.mpr (by omega),by omega⟩
theorem bL (n:Nat):(below n).length=n:=by simp [below]
theorem dW (n:Nat):(below n).Nodup:=by
 unfold below
 refine List.Pairwise.map _ (fun a b h=>?_) (List.nodup_range (n:=n))
 intro e
 exact h (by omega)
theorem cf {m:Int} {l:List Int} (hm:0≤m) (hn:l.Nodup) (h:∀ x∈l,0≤x∧x < m):(l.length:Int)≤m:=by
 have:=fg (l':=below m.toNat) hn fun x hx=>mem_below.mpr ⟨(h x hx).1,by have:=(h x hx).2; omega⟩
 rw [bL] at this
 omega
theorem xh {m:Int} {l:List Int} (hm:0≤m) (h:∀ v,0≤v→v < m→v∈l):m≤(l.length:Int):=by
 have:=fg (l:=below m.toNat) (l':=l) (dW _) fun x hx=>by
   obtain ⟨h0,h1⟩:=mem_below.mp hx
   exact h x h0 (by omega)
 rw [bL] at this
 omega
def gF (p:Int) (r:Road):List Int:=(if r.a=p then [r.b] else []) ++ (if r.b=p then [r.a] else [])
def bR (rs:List Road) (p:Int):List Int:=rs.flatMap (gF p)
theorem mem_ends {rs:List Road} {p e:Int}:e∈bR rs p↔∃ r∈rs,(r.a=p∧r.b=e)∨(r.b=p∧r.a=e):=by
 unfold bR gF
 rw [List.mem_flatMap]
 constructor
 · rintro ⟨r,hr,h⟩
   refine ⟨r,hr,?_⟩
   rcases List.mem_append.mp h with h | h
   · by_cases c:r.a=p
     · rw [if_pos c] at h
       exact .inl ⟨c,(List.mem_singleton.mp h).symm⟩
     · rw [if_neg c] at h; cases h
   · by_cases c:r.b=p
     · rw [if_pos c] at h
       exact .inr ⟨c,(List.mem_singleton.mp h).symm⟩
     · rw [if_neg c] at h; cases h
 · rintro ⟨r,hr,h⟩
   refine ⟨r,hr,List.mem_append.mpr ?_⟩
   rcases h with ⟨h1,h2⟩ | ⟨h1,h2⟩
   · exact .inl (by rw [if_pos h1,h2]; exact List.mem_singleton.mpr rfl)
   · exact .inr (by rw [if_pos h1,h2]; exact List.mem_singleton.mpr rfl)
theorem ow (rs:List Road) (p:Int):(bR rs p).length≤2 * rs.length:=by
 unfold bR
 induction rs with
 | nil=>simp
 | cons r rs ih =>
   rw [List.flatMap_cons,List.length_append,List.length_cons]
   have:(gF p r).length≤2:=by
     unfold gF
     rw [List.length_append]
     by_cases c:r.a=p <;> by_cases d:r.b=p <;> simp [c,d]
   omega
theorem gr (rs:List Road) (r:Road) (p:Int):bR (rs ++ [r]) p=bR rs p ++ gF p r:=by
 unfold bR
 rw [List.flatMap_append]
 simp
def kZ (c:List Int × List Int) (e:Int):List Int × List Int:=if e∈c.1 then c else (c.1 ++ [e],c.2 ++ [e])
structure JInv (m:Int) (rs:List Road) (ks ws:List Int):Prop where
 nd:ks.Nodup
 zero:0∈ks
 rng:∀ k∈ks,0≤k∧k < m
 sub:∀ w∈ws,w∈ks
 cl:∀ k∈ks,k ∉ ws→∀ e∈bR rs k,e∈ks
 wl:ws.length≤ks.length
theorem rj {l:List Int} {e:Int} (h:l.Nodup) (he:e ∉ l):(l ++ [e]).Nodup:=by
 rw [List.nodup_append]
 refine ⟨h,by simp,fun a ha b hb=>?_⟩
 rw [List.mem_singleton.mp hb]
 exact fun z=>he (z ▸ ha)
structure JMid (m:Int) (rs:List Road) (p:Int) (es ks ws ks0:List Int) (n0:Nat):Prop where
 nd:ks.Nodup
 zero:0∈ks
 rng:∀ k∈ks,0≤k∧k < m
 sub:∀ w∈ws,w∈ks
 cl:∀ k∈ks,k ∉ ws→k=p∨∀ e∈bR rs k,e∈ks
 seen:∀ e∈es,e∈ks
 pin:p∈ks
 mu:ks.length + n0=ks0.length + ws.length
 up:ks0.length≤ks.length
 wl:ws.length≤ks.length
theorem JMid.start {m:Int} {rs:List Road} {ks ws:List Int} {p:Int} (h:JInv m rs ks (ws ++ [p])):JMid m rs p [] ks ws ks ws.length where
 nd:=h.nd
 zero:=h.zero
 rng:=h.rng
 sub:=fun w hw=>h.sub w (List.mem_append_left _ hw)
 cl:=fun k hk hw=>by
   by_cases e:k=p
   · exact .inl e
   · exact .inr (h.cl k hk fun z=>by
       rcases List.mem_append.mp z with z | z
       · exact hw z
       · exact e (List.mem_singleton.mp z))
 seen:=fun e he=>by cases he
 pin:=h.sub p (List.mem_append_right _ (List.mem_singleton.mpr rfl))
 mu:=rfl
 up:=Nat.le_refl _
 wl:=by have:=h.wl; rw [List.length_append] at this; simp at this; omega
theorem JMid.step {m:Int} {rs:List Road} {p:Int} {es ks ws ks0:List Int} {n0:Nat} {e:Int} (h:JMid m rs p es ks ws ks0 n0) (h0:0≤e) (h1:e < m) :
   JMid m rs p (es ++ [e]) (kZ (ks,ws) e).1 (kZ (ks,ws) e).2 ks0 n0:=by
 unfold kZ
 by_cases c:e∈ks
 · rw [if_pos c]
   refine ⟨h.nd,h.zero,h.rng,h.sub,h.cl,fun x hx=>?_,h.pin,h.mu,h.up,h.wl⟩
   rcases List.mem_append.mp hx with z | z
   · exact h.seen x z
   · rw [List.mem_singleton.mp z]; exact c
 · rw [if_neg c]
   dsimp only
   refine ⟨rj h.nd c,List.mem_append_left _ h.zero,fun k hk=>?_,fun w hw=>?_,fun k hk hw=>?_,fun x hx=>?_,List.mem_append_left _ h.pin,?_,by have:=h.up; simp; omega,by have:=h.wl; simp; exact this⟩
   · rcases List.mem_append.mp hk with z | z
     · exact h.rng k z
     · rw [List.mem_singleton.mp z]; exact ⟨h0,h1⟩
   · rcases List.mem_append.mp hw with z | z
     · exact List.mem_append_left _ (h.sub w z)
     · exact List.mem_append_right _ z
   · rcases List.mem_append.mp hk with z | z
     · rcases h.cl k z fun y=>hw (List.mem_append_left _ y) with y | y
       · exact .inl y
       · exact .inr fun x hx=>List.mem_append_left _ (y x hx)
     · exact absurd (List.mem_append_right _ z) hw
   · rcases List.mem_append.mp hx with z | z
     · exact List.mem_append_left _ (h.seen x z)
     · exact List.mem_append_right _ z
   · have:=h.mu
     simp only [List.length_append,List.length_cons,List.length_nil]
     omega
theorem JMid.done {m:Int} {rs:List Road} {p:Int} {ks ws ks0:List Int} {n0:Nat} (h:JMid m rs p (bR rs p) ks ws ks0 n0):JInv m rs ks ws where
 nd:=h.nd
 zero:=h.zero
 rng:=h.rng
 sub:=h.sub
 cl:=fun k hk hw=>by
   rcases h.cl k hk hw with z | z
   · rw [z]; exact h.seen
   · exact z
 wl:=h.wl
theorem JInv.start {m:Int} {rs:List Road} (hm:1≤m):JInv m rs [0] [0] where
 nd:=by simp
 zero:=by simp
 rng:=fun k hk=>by rw [List.mem_singleton.mp hk]; omega
 sub:=fun w hw=>hw
 cl:=fun k hk hw=>absurd hk hw
 wl:=by simp
theorem JInv.all {m:Int} {rs:List Road} {ks:List Int} (h:JInv m rs ks []) (hm:1≤m) (j:tH m rs):(ks.length:Int)=m:=by
 have up:=cf (by omega) h.nd h.rng
 have:∀ v,0≤v→v < m→v∈ks:=j (fun v=>v∈ks) h.zero fun r hr=>by
   constructor
   · intro ha
     exact h.cl r.a ha (by simp) r.b (mem_ends.mpr ⟨r,hr,.inl ⟨rfl,rfl⟩⟩)
   · intro hb
     exact h.cl r.b hb (by simp) r.a (mem_ends.mpr ⟨r,hr,.inr ⟨rfl,rfl⟩⟩)
 have:=xh (by omega) this
 omega
theorem vy {m:Int} {rs:List Road} (h:∀ r∈rs,RoadOk m r) {p e:Int} (he:e∈bR rs p):0≤e∧e < m:=by
 obtain ⟨r,hr,z⟩:=mem_ends.mp he
 have k:=h r hr
 rcases z with ⟨_,rfl⟩ | ⟨_,rfl⟩
 · exact ⟨k.b0,k.b1⟩
 · exact ⟨k.a0,k.a1⟩
structure Row where
 k:Int
 un:Int
 t:Int
 u:Int
 sw:Int
 sp:Int
structure RowOk (r:Row):Prop where
 u0:0≤r.un
 u1:r.un < r.k
 t0:2≤r.t
 t1:r.t≤1000000
 v0:2≤r.u
 v1:r.u≤1000000
 s0:0≤r.sp
 s1:r.sp < r.k
structure Rows (n:Nat) (rows:List Row):Prop where
 len:rows.length=n
 ok:∀ (i:Nat) (r:Row),rows[i]?=some r→r.k=(i:Int) + 1∧RowOk r
structure Labels (n:Nat) (ls:List Int):Prop where
 len:ls.length=n
 nd:ls.Nodup
 all:∀ v:Int,0≤v→v < n→v∈ls
 rng:∀ v∈ls,0≤v∧v < n
theorem mem_insert {α:Type} {l:List α} {k:Nat} {x y:α}:y∈l.take k ++ x :: l.drop k↔y=x∨y∈l:=by
 rw [List.mem_append,List.mem_cons]
 constructor
 · rintro (h | h | h)
   · exact .inr (List.mem_of_mem_take h)
   · exact .inl h
   · exact .inr (List.mem_of_mem_drop h)
 · rintro (h | h)
   · exact .inr (.inl h)
   · rw [← List.take_append_drop k l] at h
     rcases List.mem_append.mp h with z | z
     · exact .inl z
     · exact .inr (.inr z)
def c7 (ls:List Int) (r:Row):Road:=if r.sw=1 then ⟨ls.getD r.un.toNat 0,ls.getD r.k.toNat 0,r.t,r.u⟩ else ⟨ls.getD r.k.toNat 0,ls.getD r.un.toNat 0,r.t,r.u⟩
structure Put (ls:List Int) (rows:List Row) (rs:List Road):Prop where
 len:rs.length=rows.length
 of:∀ r∈rs,∃ w∈rows,r=c7 ls w
 to:∀ w∈rows,c7 ls w∈rs
theorem Put.nil (ls:List Int):Put ls [] []:=⟨rfl,fun r h=>(by cases h),fun r h=>(by cases h)⟩
theorem Put.step {ls:List Int} {rows:List Row} {rs:List Road} (h:Put ls rows rs) (w:Row) (k:Nat):Put ls (rows ++ [w]) (rs.take k ++ c7 ls w :: rs.drop k) where
 len:=by
   rw [List.length_append,List.length_cons,List.length_take,List.length_drop,List.length_append,h.len]
   simp
   omega
 of:=fun r hr=>by
   rcases mem_insert.mp hr with z | z
   · exact ⟨w,by simp,z⟩
   · obtain ⟨w',hw,e⟩:=h.of r z
     exact ⟨w',List.mem_append_left _ hw,e⟩
 to:=fun w' hw=>by
   rw [mem_insert]
   rcases List.mem_append.mp hw with z | z
   · exact .inr (h.to w' z)
   · exact .inl (by rw [List.mem_singleton.mp z])
theorem jK {ls:List Int} {n:Nat} (h:Labels n ls) {i:Nat} (hi:i < n):ls[i]?=some (ls.getD i 0):=by
 have:i < ls.length:=by rw [h.len]; exact hi
 simp [List.getD,List.getElem?_eq_getElem this]
theorem o6 {ls:List Int} {n:Nat} (h:Labels n ls) {i:Nat} (hi:i < n):ls.getD i 0∈ls:=List.mem_of_getElem? (jK h hi)
theorem vf {ls:List Int} {n:Nat} (h:Labels n ls) {i j:Nat} (hi:i < n) (hj:j < n) (e:ls.getD i 0=ls.getD j 0):i=j:=by
 have h1:i < ls.length:=by rw [h.len]; exact hi
 have h2:j < ls.length:=by rw [h.len]; exact hj
 have e1:=jK h hi
 have e2:=jK h hj
 rw [e] at e1
 have e3:ls[i]'h1=ls[j]'h2:=by
   rw [List.getElem?_eq_getElem h1] at e1
   rw [List.getElem?_eq_getElem h2] at e2
   exact Option.some.inj (e1.trans e2.symm)
 have nd:=List.pairwise_iff_getElem.mp h.nd
 rcases Nat.lt_trichotomy i j with z | z | z
 · exact absurd e3 (nd i j h1 h2 z)
 · exact z
 · exact absurd e3.symm (nd j i h2 h1 z)
theorem y6 {n:Nat} {ls:List Int} {rows:List Row} {rs:List Road} (h1:1≤n) (h24:n≤24) (L:Labels n ls) (W:Rows (n - 1) rows) (P:Put ls rows rs):Good n rs where
 m1:=by omega
 m24:=by omega
 len:=by rw [P.len,W.len]; omega
 ok:=fun r hr=>by
   obtain ⟨w,hw,rfl⟩:=P.of r hr
   obtain ⟨i,hi⟩:=List.getElem?_of_mem hw
   obtain ⟨ek,ok⟩:=W.ok i w hi
   have hil:i < rows.length:=(List.getElem?_eq_some_iff.mp hi).1
   rw [W.len] at hil
   have hk:w.k.toNat < n:=by omega
   have hu:w.un.toNat < n:=by have:=ok.u0; have:=ok.u1; omega
   have r1:=L.rng _ (o6 L hk)
   have r2:=L.rng _ (o6 L hu)
   have ne:ls.getD w.k.toNat 0≠ls.getD w.un.toNat 0:=fun e=>by
     have:=vf L hk hu e
     have:=ok.u0; have:=ok.u1
     omega
   unfold c7
   by_cases c:w.sw=1
   · rw [if_pos c]
     exact ⟨r2.1,r2.2,r1.1,r1.2,ne.symm,ok.t0,ok.t1,ok.v0,ok.v1⟩
   · rw [if_neg c]
     exact ⟨r1.1,r1.2,r2.1,r2.2,ne,ok.t0,ok.t1,ok.v0,ok.v1⟩
 jn:=by
   intro S s0 hS
   have key:∀ i:Nat,i < n→(S (ls.getD i 0)↔S (ls.getD 0 0)):=by
     intro i
     induction i using Nat.strongRecOn with
     | ind i ih =>
       intro hi
       by_cases z:i=0
       · rw [z]
       · have hil:i - 1 < rows.length:=by rw [W.len]; omega
         obtain ⟨ek,ok⟩:=W.ok (i - 1) rows[i - 1] (List.getElem?_eq_getElem hil)
         have hm:=P.to rows[i - 1] (List.getElem_mem hil)
         have hr:=hS _ hm
         have hk:(rows[i - 1]).k.toNat=i:=by omega
         have hu:(rows[i - 1]).un.toNat < i:=by have:=ok.u0; have:=ok.u1; omega
         have hh:=ih _ hu (by omega)
         unfold c7 at hr
         rw [hk] at hr
         by_cases c:(rows[i - 1]).sw=1
         · rw [if_pos c] at hr
           exact hr.symm.trans hh
         · rw [if_neg c] at hr
           exact hr.trans hh
   have at_:∀ v,0≤v→v < (n:Int)→∃ i,i < n∧ls.getD i 0=v:=fun v h0 h1=>by
     obtain ⟨i,hi⟩:=List.getElem?_of_mem (L.all v h0 h1)
     have hil:i < n:=by have:=(List.getElem?_eq_some_iff.mp hi).1; rw [L.len] at this; exact this
     refine ⟨i,hil,?_⟩
     have:=jK L hil
     rw [hi] at this
     exact (Option.some.inj this).symm
   intro v h0 hv
   obtain ⟨i,hi,rfl⟩:=at_ v h0 hv
   obtain ⟨j,hj,ej⟩:=at_ 0 (by omega) (by omega)
   refine (key i hi).mpr ((key j hj).mp ?_)
   rw [ej]
   exact s0
end Pb
set_option linter.all false
namespace Pb
def Adj (rs:List Road) (a b:Int):Prop:=∃ x∈rs,(x.a=a∧x.b=b)∨(x.b=a∧x.a=b)
theorem Adj.symm {rs:List Road} {a b:Int} (h:Adj rs a b):Adj rs b a:=by
 obtain ⟨x,hx,h⟩:=h
 rcases h with ⟨h1,h2⟩ | ⟨h1,h2⟩
 · exact ⟨x,hx,.inr ⟨h2,h1⟩⟩
 · exact ⟨x,hx,.inl ⟨h2,h1⟩⟩
theorem oJ {rs:List Road} {a b:Int}:b∈bR rs a↔Adj rs a b:=mem_ends
theorem Good.adj {m:Int} {rs:List Road} (g:Good m rs) {a b:Int} (h:Adj rs a b):(0≤a∧a < m)∧(0≤b∧b < m)∧a≠b:=by
 obtain ⟨x,hx,h⟩:=h
 have k:=g.ok x hx
 rcases h with ⟨h1,h2⟩ | ⟨h1,h2⟩
 · subst h1 h2; exact ⟨⟨k.a0,k.a1⟩,⟨k.b0,k.b1⟩,k.ne⟩
 · subst h1 h2; exact ⟨⟨k.b0,k.b1⟩,⟨k.a0,k.a1⟩,k.ne.symm⟩
theorem Good.from {m:Int} {rs:List Road} (g:Good m rs) {r:Int} (h0:0≤r) (h1:r < m) (S:Int→Prop) (sr:S r) (hS:∀ x∈rs,(S x.a↔S x.b)):∀ v,0≤v→v < m→S v:=by
 have key:∀ v,0≤v→v < m→(S v↔S 0):=g.jn (fun v=>S v↔S 0) Iff.rfl fun x hx=>by
   have:=hS x hx
   exact ⟨fun h=>this.symm.trans h,fun h=>this.trans h⟩
 intro v a b
 exact (key v a b).mpr ((key r h0 h1).mp sr)
inductive Dist (rs:List Road) (r:Int):Nat→Int→Prop
 | zero:Dist rs r 0 r
 | step {n:Nat} {u v:Int}:Dist rs r n u→Adj rs u v→Dist rs r (n + 1) v
theorem yj {P:Nat→Prop}:∀ n,P n→∃ k,P k∧∀ j,j < k→¬ P j:=by
 intro n
 induction n using Nat.strongRecOn with
 | ind n ih =>
   intro h
   by_cases z:∃ j,j < n∧P j
   · obtain ⟨j,hj,hp⟩:=z
     exact ih j hj hp
   · exact ⟨n,h,fun j hj hp=>z ⟨j,hj,hp⟩⟩
structure Rooted (m:Int) (rs:List Road) (r:Int) (par:Int→Int) (dep:Int→Nat):Prop where
 root:dep r=0
 up:∀ v,0≤v→v < m→v≠r→(0≤par v∧par v < m)∧Adj rs v (par v)∧dep (par v) + 1=dep v
 road:∀ x∈rs,(x.a≠r∧par x.a=x.b)∨(x.b≠r∧par x.b=x.a)
 one:(rs.map fun x=>if x.a≠r∧par x.a=x.b then x.a else x.b).Nodup
theorem yM {n:Nat} {l:List Nat} (hn:l.Nodup) (hl:l.length=n) (hb:∀ x∈l,x < n):∀ i,i < n→i∈l:=by
 intro i hi
 by_cases z:i∈l
 · exact z
 · have:=fg (l:=i :: l) (l':=List.range n) (List.nodup_cons.mpr ⟨z,hn⟩) fun x hx=>by
     rcases List.mem_cons.mp hx with rfl | hx
     · exact List.mem_range.mpr hi
     · exact List.mem_range.mpr (hb x hx)
   rw [List.length_cons,List.length_range] at this
   omega
theorem fA {m:Int} {rs:List Road} (g:Good m rs) {r:Int} (h0:0≤r) (h1:r < m):∃ par dep,Rooted m rs r par dep:=by
 classical
 have reach:∀ v,0≤v→v < m→∃ n,Dist rs r n v:=g.from h0 h1 (fun v=>∃ n,Dist rs r n v) ⟨0,.zero⟩ fun x hx=>by
   constructor
   · rintro ⟨n,d⟩; exact ⟨n + 1,d.step ⟨x,hx,.inl ⟨rfl,rfl⟩⟩⟩
   · rintro ⟨n,d⟩; exact ⟨n + 1,d.step ⟨x,hx,.inr ⟨rfl,rfl⟩⟩⟩
 have hd:∀ v,∃ k,(0≤v∧v < m)→Dist rs r k v∧∀ j,j < k→¬ Dist rs r j v:=fun v=>by
   by_cases z:0≤v∧v < m
   · obtain ⟨n,d⟩:=reach v z.1 z.2
     obtain ⟨k,h⟩:=yj (P:=fun k=>Dist rs r k v) n d
     exact ⟨k,fun _=>h⟩
   · exact ⟨0,fun h=>absurd h z⟩
 let dep:Int→Nat:=fun v=>(hd v).choose
 have dspec:∀ v,0≤v→v < m→Dist rs r (dep v) v∧∀ j,j < dep v→¬ Dist rs r j v:=fun v a b=>(hd v).choose_spec ⟨a,b⟩
 have dr:dep r=0:=by
   have:=(dspec r h0 h1).2 0
   by_cases z:dep r=0
   · exact z
   · exact absurd Dist.zero (this (by omega))
 have hp:∀ v,∃ u,(0≤v∧v < m∧v≠r)→Adj rs v u∧dep u + 1=dep v:=fun v=>by
   by_cases z:0≤v∧v < m∧v≠r
   · obtain ⟨a,b,c⟩:=z
     obtain ⟨d,dm⟩:=dspec v a b
     generalize hk:dep v=k at d dm
     cases d with
     | zero=>exact absurd rfl c
     | @step n u _ d e =>
       refine ⟨u,fun _=>⟨e.symm,?_⟩⟩
       obtain ⟨⟨u0,u1⟩,_⟩:=g.adj e
       have l1:dep u≤n:=by
         by_cases w:dep u≤n
         · exact w
         · exact absurd d ((dspec u u0 u1).2 n (by omega))
       have l2:¬ dep u < n:=fun w=>dm (dep u + 1) (by omega) ((dspec u u0 u1).1.step e)
       omega
   · exact ⟨0,fun h=>absurd h z⟩
 let par:Int→Int:=fun v=>(hp v).choose
 have pspec:∀ v,0≤v→v < m→v≠r→Adj rs v (par v)∧dep (par v) + 1=dep v:=fun v a b c=>(hp v).choose_spec ⟨a,b,c⟩
 have hi:∀ v,∃ i:Nat,(0≤v∧v < m∧v≠r)→∃ x,rs[i]?=some x∧((x.a=v∧x.b=par v)∨(x.b=v∧x.a=par v)):=fun v=>by
   by_cases z:0≤v∧v < m∧v≠r
   · obtain ⟨x,hx,h⟩:=(pspec v z.1 z.2.1 z.2.2).1
     obtain ⟨i,e⟩:=List.getElem?_of_mem hx
     exact ⟨i,fun _=>⟨x,e,h⟩⟩
   · exact ⟨0,fun h=>absurd h z⟩
 let ix:Int→Nat:=fun v=>(hi v).choose
 have ispec:∀ v,0≤v→v < m→v≠r→∃ x,rs[ix v]?=some x∧((x.a=v∧x.b=par v)∨(x.b=v∧x.a=par v)):=fun v a b c=>(hi v).choose_spec ⟨a,b,c⟩
 have inj:∀ v u,0≤v→v < m→v≠r→0≤u→u < m→u≠r→ix v=ix u→v=u:=by
   intro v u a b c a' b' c' e
   obtain ⟨x,hx,h⟩:=ispec v a b c
   obtain ⟨y,hy,h'⟩:=ispec u a' b' c'
   rw [e,hy] at hx
   cases hx
   have d1:=(pspec v a b c).2
   have d2:=(pspec u a' b' c').2
   rcases h with ⟨p,q⟩ | ⟨p,q⟩ <;> rcases h' with ⟨p',q'⟩ | ⟨p',q'⟩
   · exact p.symm.trans p'
   · exfalso
     have e1:v=par u:=p.symm.trans q'
     have e2:u=par v:=p'.symm.trans q
     rw [← e1] at d2
     rw [← e2] at d1
     omega
   · exfalso
     have e1:v=par u:=p.symm.trans q'
     have e2:u=par v:=p'.symm.trans q
     rw [← e1] at d2
     rw [← e2] at d1
     omega
   · exact p.symm.trans p'
 let vs:List Int:=(below m.toNat).filter fun v=>decide (v≠r)
 have mv:∀ v,v∈vs↔(0≤v∧v < m∧v≠r):=fun v=>by
   rw [List.mem_filter,mem_below,decide_eq_true_eq]
   constructor
   · rintro ⟨⟨a,b⟩,c⟩; exact ⟨a,by omega,c⟩
   · rintro ⟨a,b,c⟩; exact ⟨⟨a,by omega⟩,c⟩
 have nv:vs.Nodup:=(dW _).filter _
 have lv:vs.length=rs.length:=by
   have e1:(r :: vs).length≤(below m.toNat).length:=fg (List.nodup_cons.mpr ⟨fun h=>((mv r).mp h).2.2 rfl,nv⟩) fun x hx=>by
     rcases List.mem_cons.mp hx with rfl | hx
     · exact mem_below.mpr ⟨h0,by omega⟩
     · have:=(mv x).mp hx
       exact mem_below.mpr ⟨this.1,by omega⟩
   have e2:(below m.toNat).length≤(r :: vs).length:=fg (dW _) fun x hx=>by
     have:=mem_below.mp hx
     by_cases z:x=r
     · rw [z]; exact List.mem_cons_self
     · exact List.mem_cons_of_mem _ ((mv x).mpr ⟨this.1,by omega,z⟩)
   rw [bL,List.length_cons] at e1 e2
   have:=g.len
   have:=g.m1
   omega
 have il:(vs.map ix).Nodup:=by
   have:∀ (l:List Int),l.Nodup→(∀ v∈l,0≤v∧v < m∧v≠r)→(l.map ix).Nodup:=by
     intro l
     induction l with
     | nil=>intro _ _; simp
     | cons v l ih =>
       intro hn hm
       obtain ⟨n1,n2⟩:=List.nodup_cons.mp hn
       rw [List.map_cons]
       refine List.nodup_cons.mpr ⟨fun z=>?_,ih n2 fun u hu=>hm u (List.mem_cons_of_mem _ hu)⟩
       obtain ⟨u,hu,e⟩:=List.mem_map.mp z
       obtain ⟨a,b,c⟩:=hm v List.mem_cons_self
       obtain ⟨a',b',c'⟩:=hm u (List.mem_cons_of_mem _ hu)
       exact n1 (inj u v a' b' c' a b c e ▸ hu)
   exact this vs nv fun v hv=>(mv v).mp hv
 have ib:∀ i∈vs.map ix,i < rs.length:=fun i hi'=>by
   obtain ⟨v,hv,rfl⟩:=List.mem_map.mp hi'
   obtain ⟨a,b,c⟩:=(mv v).mp hv
   obtain ⟨x,hx,_⟩:=ispec v a b c
   exact (List.getElem?_eq_some_iff.mp hx).1
 have all:=yM il (by rw [List.length_map,lv]) ib
 have back:∀ i x,rs[i]?=some x→∃ v,(0≤v∧v < m∧v≠r)∧ix v=i∧((x.a=v∧x.b=par v)∨(x.b=v∧x.a=par v)):=fun i x e=>by
   obtain ⟨v,hv,rfl⟩:=List.mem_map.mp (all i (List.getElem?_eq_some_iff.mp e).1)
   obtain ⟨a,b,c⟩:=(mv v).mp hv
   obtain ⟨y,hy,h⟩:=ispec v a b c
   rw [e] at hy
   cases hy
   exact ⟨v,⟨a,b,c⟩,rfl,h⟩
 have noback:∀ v,0≤v→v < m→v≠r→par v≠r→par (par v)≠v:=fun v a b c c' z=>by
   have d1:=pspec v a b c
   obtain ⟨_,⟨a',b'⟩,_⟩:=g.adj d1.1
   have d2:=pspec (par v) a' b' c'
   rw [z] at d2
   omega
 have kid:∀ i x,rs[i]?=some x→∃ v,(0≤v∧v < m∧v≠r)∧ix v=i∧(if x.a≠r∧par x.a=x.b then x.a else x.b)=v:=fun i x e=>by
   obtain ⟨v,⟨a,b,c⟩,hv,h⟩:=back i x e
   refine ⟨v,⟨a,b,c⟩,hv,?_⟩
   rcases h with ⟨p,q⟩ | ⟨p,q⟩
   · rw [if_pos ⟨by rw [p]; exact c,by rw [p]; exact q.symm⟩]
     exact p
   · rw [if_neg]
     · exact p
     · rintro ⟨z1,z2⟩
       rw [q] at z1 z2
       exact noback v a b c z1 (z2.trans p)
 refine ⟨par,dep,dr,fun v a b c=>?_,fun x hx=>?_,?_⟩
 · obtain ⟨p,q⟩:=pspec v a b c
   obtain ⟨_,w,_⟩:=g.adj p
   exact ⟨w,p,q⟩
 · obtain ⟨i,e⟩:=List.getElem?_of_mem hx
   obtain ⟨v,⟨a,b,c⟩,_,h⟩:=back i x e
   rcases h with ⟨p,q⟩ | ⟨p,q⟩
   · exact .inl ⟨by rw [p]; exact c,by rw [p]; exact q.symm⟩
   · exact .inr ⟨by rw [p]; exact c,by rw [p]; exact q.symm⟩
 · refine List.pairwise_iff_getElem.mpr fun i j hi' hj' lt=>?_
   rw [List.length_map] at hi' hj'
   rw [List.getElem_map,List.getElem_map]
   intro z
   obtain ⟨v,_,e1,k1⟩:=kid i rs[i] (List.getElem?_eq_getElem hi')
   obtain ⟨u,_,e2,k2⟩:=kid j rs[j] (List.getElem?_eq_getElem hj')
   rw [k1,k2] at z
   rw [z] at e1
   omega
theorem qM {m:Int} {rs:List Road} (g:Good m rs) {p:Int} (h0:0≤p) (h1:p < m):(bR rs p).Nodup:=by
 obtain ⟨par,dep,R⟩:=fA g h0 h1
 have one:=R.one
 have ok:=g.ok
 have road:=R.road
 clear R g
 induction rs with
 | nil=>simp [bR]
 | cons x l ih =>
   have ox:=ok x List.mem_cons_self
   have ol:∀ y∈l,RoadOk m y:=fun y hy=>ok y (List.mem_cons_of_mem _ hy)
   rw [List.map_cons] at one
   obtain ⟨n1,n2⟩:=List.nodup_cons.mp one
   have il:=ih n2 ol fun y hy=>road y (List.mem_cons_of_mem _ hy)
   have e:bR (x :: l) p=gF p x ++ bR l p:=by unfold bR; rw [List.flatMap_cons]
   rw [e]
   have kid:∀ y,RoadOk m y→((y.a≠p∧par y.a=y.b)∨(y.b≠p∧par y.b=y.a))→(y.a=p→(if y.a≠p∧par y.a=y.b then y.a else y.b)=y.b)∧(y.b=p→(if y.a≠p∧par y.a=y.b then y.a else y.b)=y.a):=fun y oy hy=>by
     constructor
     · intro z
       rw [if_neg (fun w=>w.1 z)]
     · intro z
       rcases hy with hy | hy
       · rw [if_pos hy]
       · exact absurd z hy.1
   have kx:=kid x ox (road x List.mem_cons_self)
   have inl:∀ e∈bR l p,e∈l.map fun y=>if y.a≠p∧par y.a=y.b then y.a else y.b:=fun e he=>by
     obtain ⟨y,hy,h⟩:=mem_ends.mp he
     have ky:=kid y (ol y hy) (road y (List.mem_cons_of_mem _ hy))
     refine List.mem_map.mpr ⟨y,hy,?_⟩
     rcases h with ⟨p1,q1⟩ | ⟨p1,q1⟩
     · rw [ky.1 p1]; exact q1
     · rw [ky.2 p1]; exact q1
   unfold gF
   by_cases c:x.a=p
   · have d:¬ x.b=p:=fun z=>ox.ne (c.trans z.symm)
     rw [if_pos c,if_neg d,List.append_nil]
     refine List.nodup_cons.mpr ⟨fun z=>n1 ?_,il⟩
     rw [kx.1 c]
     exact inl _ z
   · rw [if_neg c,List.nil_append]
     by_cases d:x.b=p
     · rw [if_pos d]
       refine List.nodup_cons.mpr ⟨fun z=>n1 ?_,il⟩
       rw [kx.2 d]
       exact inl _ z
     · rw [if_neg d]
       exact il
def dh (m:Int) (rs:List Road) (p:Int):List Int:=(below m.toNat).filter fun q=>decide (q∈bR rs p)
theorem mT:∀ {l l':List Int},l.Perm l'→l.Pairwise (·≤·)→l'.Pairwise (·≤·)→l=l'
 | [],l',p,_,_=>(List.Perm.nil_eq p)
 | a :: l,l',p,h,h'=>by
   cases l' with
   | nil=>exact absurd p.symm.nil_eq (by simp)
   | cons b r =>
     obtain ⟨h1,h2⟩:=List.pairwise_cons.mp h
     obtain ⟨h1',h2'⟩:=List.pairwise_cons.mp h'
     have e:a=b:=by
       have ma:a∈b :: r:=p.subset List.mem_cons_self
       have mb:b∈a :: l:=p.symm.subset List.mem_cons_self
       rcases List.mem_cons.mp ma with z | z
       · exact z
       · rcases List.mem_cons.mp mb with w | w
         · exact w.symm
         · have:=h1 b w
           have:=h1' a z
           omega
     subst e
     rw [mT (List.Perm.cons_inv p) h2 h2']
theorem o7 (n:Nat):(below n).Pairwise (·≤·):=by
 unfold below
 refine List.Pairwise.map _ (fun a b (h:a < b)=>?_) List.pairwise_lt_range
 omega
theorem qc (m:Int) (rs:List Road) (p:Int):(dh m rs p).Pairwise (·≤·):=(o7 _).filter _
theorem lJ (m:Int) (rs:List Road) (p:Int):(dh m rs p).Nodup:=(dW _).filter _
theorem kh {m:Int} {rs:List Road} (g:Good m rs) {p q:Int}:q∈dh m rs p↔Adj rs p q:=by
 unfold dh
 rw [List.mem_filter,decide_eq_true_eq,oJ,mem_below]
 constructor
 · exact fun h=>h.2
 · intro h
   obtain ⟨_,⟨a,b⟩,_⟩:=g.adj h
   exact ⟨⟨a,by omega⟩,h⟩
theorem fN:∀ {l l':List Int},l.Nodup→l'.Nodup→(∀ x,x∈l↔x∈l')→l.Perm l'
 | [],l',_,_,h=>by
   cases l' with
   | nil=>exact .nil
   | cons b r=>exact absurd ((h b).mpr List.mem_cons_self) (by simp)
 | a :: l,l',n,n',h=>by
   obtain ⟨n1,n2⟩:=List.nodup_cons.mp n
   have ma:a∈l':=(h a).mp List.mem_cons_self
   refine List.Perm.trans (List.Perm.cons a ?_) (List.perm_cons_erase ma).symm
   refine fN n2 (n'.erase a) fun x=>?_
   constructor
   · intro hx
     have ne:x≠a:=fun z=>n1 (z ▸ hx)
     exact (List.mem_erase_of_ne ne).mpr ((h x).mp (List.mem_cons_of_mem _ hx))
   · intro hx
     have:x≠a:=fun z=>by
       subst z
       exact (List.Nodup.not_mem_erase n') hx
     rcases List.mem_cons.mp ((h x).mpr (List.mem_of_mem_erase hx)) with z | z
     · exact absurd z this
     · exact z
theorem zc {m:Int} {rs:List Road} (g:Good m rs) {p:Int} (h0:0≤p) (h1:p < m) {zs:List Int} (hp:zs.Perm (bR rs p)) (hs:zs.Pairwise (·≤·)):zs=dh m rs p:=by
 refine mT (hp.trans (fN (qM g h0 h1) (lJ m rs p) fun x=>?_)) hs (qc m rs p)
 rw [kh g,oJ]
def c9 (a b:Int) (x:Road):Option Int:=if x.a=a∧x.b=b then some x.t else if x.a=b∧x.b=a then some x.u else none
def bK (rs:List Road) (a b:Int):Option Int:=rs.findSome? (c9 a b)
def ir (x:Road) (a b:Int):Prop:=(x.a=a∧x.b=b)∨(x.b=a∧x.a=b)
theorem tN {m:Int} {rs:List Road} (g:Good m rs) {a b:Int} {i j:Nat} {x y:Road} (hi:rs[i]?=some x) (hj:rs[j]?=some y) (jx:ir x a b) (jy:ir y a b):i=j:=by
 obtain ⟨⟨a0,a1⟩,_,_⟩:=g.adj (show Adj rs a b from ⟨x,List.mem_of_getElem? hi,jx⟩)
 obtain ⟨par,dep,R⟩:=fA g a0 a1
 have kid:∀ z∈rs,ir z a b→(if z.a≠a∧par z.a=z.b then z.a else z.b)=b:=fun z hz jz=>by
   rcases jz with ⟨p,q⟩ | ⟨p,q⟩
   · rw [if_neg (fun w=>w.1 p)]
     exact q
   · rcases R.road z hz with w | w
     · rw [if_pos w]
       exact q
     · exact absurd p w.1
 have li:=(List.getElem?_eq_some_iff.mp hi)
 have lj:=(List.getElem?_eq_some_iff.mp hj)
 obtain ⟨li,ei⟩:=li
 obtain ⟨lj,ej⟩:=lj
 have nd:=List.pairwise_iff_getElem.mp R.one
 have vi:(rs.map fun z=>if z.a≠a∧par z.a=z.b then z.a else z.b)[i]'(by rw [List.length_map]; exact li)=b:=by
   rw [List.getElem_map]
   exact kid _ (List.getElem_mem li) (ei ▸ jx)
 have vj:(rs.map fun z=>if z.a≠a∧par z.a=z.b then z.a else z.b)[j]'(by rw [List.length_map]; exact lj)=b:=by
   rw [List.getElem_map]
   exact kid _ (List.getElem_mem lj) (ej ▸ jy)
 rcases Nat.lt_trichotomy i j with z | z | z
 · exact absurd (vi.trans vj.symm) (nd i j _ _ z)
 · exact z
 · exact absurd (vj.trans vi.symm) (nd j i _ _ z)
theorem rg {a b:Int} {x:Road} (h:¬ ir x a b):c9 a b x=none:=by
 unfold c9
 rw [if_neg (fun z=>h (.inl z)),if_neg (fun z=>h (.inr ⟨z.2,z.1⟩))]
theorem jf {m:Int} {rs:List Road} (g:Good m rs) {a b:Int} {i:Nat} {x:Road} (hi:rs[i]?=some x) (j:ir x a b):bK rs a b=c9 a b x:=by
 have lt:=(List.getElem?_eq_some_iff.mp hi)
 obtain ⟨lt,ex⟩:=lt
 have e:rs=rs.take i ++ x :: rs.drop (i + 1):=by rw [← ex,List.getElem_cons_drop,List.take_append_drop]
 have pre:bK (rs.take i) a b=none:=by
   unfold bK
   rw [List.findSome?_eq_none_iff]
   intro y hy
   refine rg fun jy=>?_
   obtain ⟨k,hk⟩:=List.getElem?_of_mem hy
   have lk:=(List.getElem?_eq_some_iff.mp hk).1
   rw [List.length_take] at lk
   rw [List.getElem?_take_of_lt (by omega)] at hk
   have:=tN g hk hi jy j
   omega
 have hx:(c9 a b x).isSome=true:=by
   unfold c9
   rcases j with z | z
   · rw [if_pos z]; rfl
   · by_cases c:x.a=a∧x.b=b
     · rw [if_pos c]; rfl
     · rw [if_neg c,if_pos ⟨z.2,z.1⟩]; rfl
 obtain ⟨v,hv⟩:=Option.isSome_iff_exists.mp hx
 have:bK (rs.take i ++ x :: rs.drop (i + 1)) a b=c9 a b x:=by
   unfold bK at pre ⊢
   rw [List.findSome?_append,pre,List.findSome?_cons,hv]
   rfl
 rw [← e] at this
 exact this
section
variable {m:Int} {row:List Int} {rs rs':List Road}
end
end Pb
set_option Elab.async false
set_option linter.all false
set_option maxRecDepth 100000
namespace L2
open PySem PySem.Spec PyProof.Rows
def aL (CX:CXT):Prop:=∀ outer H s e s',¬ CX outer H s E0 e s'
theorem aS {CX:CXT} (q:aL CX) {X:Cx}:hV CX X E0:=fun _ _ _ _ _ _ _ h=>(q _ _ _ _ _ h).elim
structure Df (K:PySem.W.Frag) (mg:Str→Option Value) (x:Str) (st:Stmt) (ps:List Str) (f:Addr) (fd:FuncData):Prop where
 F:Fun K x x st f fd
 m:mg x=some (.ref f)
 b:Binds K fd ps []
section
variable {P:Program} {w:World} {K:PySem.W.Frag} {mg:Str→Option Value} {base:Heap} {CX:CXT}
theorem Fun.okC {x qual:Str} {st:Stmt} {f:Addr} {fd:FuncData} {N ps:List Str} {k:Nat} {sp:Sp} (F:Fun K x qual st f fd) (S:FnScope N ps (aa st)) (len:∀ vs H Q E,sp vs H Q E→vs.length=ps.length)
   (hbody:∀ (cdv:Value) (A:Around) (outer:List Env) (s:Shared) (H:Hp) (vs:List V) (Q:VK) (E:XK),Room k (A.deeper (envOfC qual (aa st) s.heap.objs.size f cdv))→sp vs H Q E →
     ∃ t,PSs (eT CX P w K mg base N qual (aa st) f cdv A outer s H E).nox (az st) t∧t { nx:=fun _ H'=>Q .non H',rt:=Q } (start N vs) H):FnOk P w K mg base CX (k + 1) f fd ps sp:=by
 obtain ⟨oc,od,kV,doc,pm,an,cdv,ct,osl,rfl,lk,hcd⟩:=F.ex
 refine yi lk hcd S len fun A outer s H vs Q E hr hsp=>?_
 obtain ⟨t,h,q⟩:=hbody cdv A outer s H vs Q E hr hsp
 exact ⟨t,h.nox,q⟩
end
structure NmL (sc:Scope) (x:Str):Prop where
 l:sc.names.lookup x=some .local
 d:(x == ("__debug__":Str))=false
 c:(x == ("__classdict__":Str))=false
structure NmC (sc:Scope) (x:Str):Prop where
 l:sc.names.lookup x=some .cell
 d:(x == ("__debug__":Str))=false
 c:(x == ("__classdict__":Str))=false
structure NmG (sc:Scope) (x:Str):Prop where
 g:sc.names.lookup x=some .globalImplicit
 d:(x == ("__debug__":Str))=false
 n:x≠"__name__"
theorem us1 {us:List Value} (h:us.length=1):∃ a0,us=[a0]:=List.length_eq_one_iff.mp h
theorem us2 {us:List Value} (h:us.length=2):∃ a0 a1,us=[a0,a1]:=by
 cases us with
 | nil=>cases h
 | cons a0 t =>
   obtain ⟨a1,e⟩:=us1 (Nat.succ.inj h)
   subst e
   exact ⟨a0,a1,rfl⟩
theorem us3 {us:List Value} (h:us.length=3):∃ a0 a1 a2,us=[a0,a1,a2]:=by
 cases us with
 | nil=>cases h
 | cons a0 t =>
   obtain ⟨a1,a2,e⟩:=us2 (Nat.succ.inj h)
   subst e
   exact ⟨a0,a1,a2,rfl⟩
theorem us4 {us:List Value} (h:us.length=4):∃ a0 a1 a2 a3,us=[a0,a1,a2,a3]:=by
 cases us with
 | nil=>cases h
 | cons a0 t =>
   obtain ⟨a1,a2,a3,e⟩:=us3 (Nat.succ.inj h)
   subst e
   exact ⟨a0,a1,a2,a3,rfl⟩
theorem us5 {us:List Value} (h:us.length=5):∃ a0 a1 a2 a3 a4,us=[a0,a1,a2,a3,a4]:=by
 cases us with
 | nil=>cases h
 | cons a0 t =>
   obtain ⟨a1,a2,a3,a4,e⟩:=us4 (Nat.succ.inj h)
   subst e
   exact ⟨a0,a1,a2,a3,a4,rfl⟩
def nmL (sc:Scope) (x:Str):Bool:=decide (sc.names.lookup x=some .local) && !(x == ("__debug__":Str)) && !(x == ("__classdict__":Str))
def nmC (sc:Scope) (x:Str):Bool:=decide (sc.names.lookup x=some .cell) && !(x == ("__debug__":Str)) && !(x == ("__classdict__":Str))
def nmG (sc:Scope) (x:Str):Bool:=decide (sc.names.lookup x=some .globalImplicit) && !(x == ("__debug__":Str)) && !decide (x="__name__")
theorem NmL.of {sc:Scope} {x:Str} (h:nmL sc x=true):NmL sc x:=by
 unfold nmL at h
 simp only [Bool.and_eq_true,decide_eq_true_eq,Bool.not_eq_true'] at h
 exact ⟨h.1.1,h.1.2,h.2⟩
theorem NmC.of {sc:Scope} {x:Str} (h:nmC sc x=true):NmC sc x:=by
 unfold nmC at h
 simp only [Bool.and_eq_true,decide_eq_true_eq,Bool.not_eq_true'] at h
 exact ⟨h.1.1,h.1.2,h.2⟩
theorem NmG.of {sc:Scope} {x:Str} (h:nmG sc x=true):NmG sc x:=by
 unfold nmG at h
 simp only [Bool.and_eq_true,decide_eq_true_eq,Bool.not_eq_true',decide_eq_false_iff_not] at h
 exact ⟨h.1.1,h.1.2,h.2⟩
def Aw (N ps:List Str) (sc:Scope):Bool:=decide (sc.kind=.function) && !sc.isCoroutine && !sc.isGenerator && decide N.Nodup && decide (N.take ps.length=ps) && (ps.all fun x=>decide (sc.names.lookup x=some .local∨sc.names.lookup x=some .cell)) && (sc.names.all fun y=>decide (y.2≠.free))
theorem FnScope.of {N ps:List Str} {sc:Scope} (h:Aw N ps sc=true):FnScope N ps sc:=by
 unfold Aw at h
 simp only [Bool.and_eq_true,decide_eq_true_eq,Bool.not_eq_true',List.all_eq_true] at h
 obtain ⟨⟨⟨⟨⟨⟨h1,h2⟩,h3⟩,h4⟩,h5⟩,h6⟩,h7⟩:=h
 exact ⟨h1,h2,h3,h4,h5,h6,h7⟩
theorem pvl {X:Cx} (i:Nat) {x:Str} {pos:Pos} (n:NmL X.env.scope x) (hN:X.N[i]?=some x:=by rfl):PE X (.Name x pos) (mf i):=pF hN (.inl n.l) n.d n.c
theorem pvc {X:Cx} (i:Nat) {x:Str} {pos:Pos} (n:NmC X.env.scope x) (hN:X.N[i]?=some x:=by rfl):PE X (.Name x pos) (mf i):=pF hN (.inr (.inl n.l)) n.d n.c
theorem sI {CX:CXT} {P:Program} {w:World} {K:PySem.W.Frag} {mg:Str→Option Value} {base:Heap} {N:List Str} {qual:Str} {scope:Scope} {f:Addr} {cd:Value} {A:Around} {outer:List Env} {s:Shared} {H:Hp} {E:XK} :
   (eT CX P w K mg base N qual scope f cd A outer s H E).K=K:=rfl
theorem nA (D:Ends) (σ:St) (H:Hp):tNever D σ H=False:=rfl
theorem yJ (i j:Int):iw (.int i) (.int j)=true:=rfl
theorem yN (i j:Bool):iw (.bl i) (.bl j)=true:=rfl
theorem za (i:Int):iw (.int i) .non=true:=rfl
theorem yX (i:Int):iw .non (.int i)=true:=rfl
theorem zn:iw .non .non=true:=rfl
theorem zh (i j:Str):iw (.str i) (.str j)=true:=rfl
theorem ixT {K:PySem.W.Frag} {H:Hp} {p:Addr} {xs:List V} {i:Int} {v:V} {Q:VK} (h:H p=some (.tup xs)) (e:atI xs i=some v) (q:Q v H):rT K (.ref p) (.int i) H Q:=⟨p,xs,i,v,rfl,rfl,SqT.of h,e,q⟩
theorem ixL {K:PySem.W.Frag} {H:Hp} {p:Addr} {xs:List V} {i:Int} {v:V} {Q:VK} (h:H p=some (.lst xs)) (e:atI xs i=some v) (q:Q v H):ou K (.ref p) (.int i) H Q:=⟨p,xs,i,v,rfl,rfl,SqL.of h,e,q⟩
theorem ixS {K:PySem.W.Frag} {H:Hp} {p:Addr} {xs:List V} {i:Int} {v:V} {Q:VK} (h:SqL K H p xs) (e:atI xs i=some v) (q:Q v H):ou K (.ref p) (.int i) H Q:=⟨p,xs,i,v,rfl,rfl,h,e,q⟩
theorem tyL {K:PySem.W.Frag} {H:Hp} {l:Addr} {xs:List V} (h:H l=some (.lst xs)):tyV K "list" (.ref l) H:=.inl ⟨rfl,_,SqL.of h⟩
theorem gc {H:Hp} {l:Addr} {xs:List V} {y:V} {Q:VK} (h:H l=some (.lst xs)) (hz:xs.length < sizeLine) (q:Q .non (upd H l (.lst (xs ++ [y])))):rAppend (.ref l) [y] H Q:=⟨l,xs,y,rfl,rfl,h,hz,q⟩
theorem Af {H:Hp} {l:Addr} {xs:List V} {i:Int} {y:V} {Q:VK} (h:H l=some (.lst xs)) (h0:0≤i) (h1:i≤xs.length) (hz:xs.length < sizeLine) (q:Q .non (upd H l (.lst (xs.take i.toNat ++ y :: xs.drop i.toNat)))):rInsert (.ref l) [.int i,y] H Q :=
 ⟨l,xs,i,y,rfl,rfl,h,h0,h1,hz,q⟩
theorem xA {H:Hp} {l:Addr} {xs:List V} {y:V} {Q:VK} (h:H l=some (.lst (xs ++ [y]))) (q:Q y (upd H l (.lst xs))):rPop (.ref l) [] H Q :=
 ⟨l,xs ++ [y],y,rfl,rfl,h,by simp,by rw [List.dropLast_concat]; exact q⟩
theorem cr {n:Nat} (h:n≤100000):n < sizeLine:=Nat.lt_of_le_of_lt h (by decide)
theorem aD {n:Nat} (h:n≤100000):n≤sizeLine:=Nat.le_of_lt (cr h)
theorem jG {α:Type} {xs:List α} {i:Int} {v:α} (h0:0≤i) (h:xs[i.toNat]?=some v):atI xs i=some v:=by
 obtain ⟨n,rfl⟩:∃ n:Nat,i=n:=⟨i.toNat,by omega⟩
 exact zm (by simpa using h)
theorem kI {X:Cx} {x:Str} {i:Int} {pos:Pos} (hg:Gl X x) (hm:∃ t,X.mg x=some (.int i t)) (hd:(x == ("__debug__":Str))=false:=by decide):PE X (.Name x pos) (tC (.int i)):=by
 obtain ⟨t,e⟩:=hm
 exact ff hg e ⟨t,rfl⟩ hd
def Itx (K:PySem.W.Frag):Bool→Addr→It
 | true,a=>Itl K a
 | false,a=>Itt K a
def wb (K:PySem.W.Frag) (c:Bool) (tl:TE):TI:=fun σ H R=>tl σ H fun x H1=>∃ a,x=.ref a∧(∃ xs,SqX K c H1 a xs)∧R (Itx K c a) H1
theorem tz {X:Cx} {tg l:Expr} {tl:TE} (c:Bool) (hl:PE X l tl):PI X tg l (wb X.K c tl):=by
 cases c
 · exact jp hl
 · exact eU hl
def ja (J:It) (p:Addr) (Q:VK) (g:TG) (tc:TT) (te:TE) (σ0:St) (H0:Hp):Prop :=
 ∃ W:Nat→Nat→List V→St→Hp→Prop,(∃ m,W 0 m [] σ0 H0)∧∀ i m ys σc Hc,W i m ys σc Hc →
   (J.stop i Hc∧Q (.ref p) Hc)∨(J.go i Hc∧∀ x H',J.yld i Hc x H'→g x σc H' fun σ2 H2=>tc σ2 H2 fun b H3 =>
     if b=true then te σ2 H3 fun y H4=>H4 p=some (.lst ys)∧ys.length < sizeLine∧∃ m',m' < m∧W (i + 1) m' (ys ++ [y]) σ2 (upd H4 p (.lst (ys ++ [y])))
     else ∃ m',m' < m∧W (i + 1) m' ys σ2 H3)
theorem nC {own:Nat} {js:List Nat} {wi:TI} {g:TG} {tc:TT} {te:TE} {σ:St} {H:Hp} {Q:VK}:rN own js wi g tc te σ H Q=wi σ H fun J H1=>∀ p,H1 p=none→ja J p Q g tc te (db own js σ) (upd H1 p (.lst [])):=rfl
def fZ (J:It) (D:Ends) (g:TG) (tb:TS) (σ:St) (H:Hp):Prop:=∃ W:Nat→Nat→St→Hp→Prop,(∃ m,W 0 m σ H)∧∀ i m σ H,W i m σ H →
 (J.stop i H∧D.nx σ H)∨(J.go i H∧∃ N:St→Hp→Prop,(∀ σ' H',N σ' H'→∃ m',m' < m∧W (i + 1) m' σ' H')∧∀ x H',J.yld i H x H'→g x σ H' fun σ2 H2=>tb { D with nx:=N,ct:=N,bk:=D.nx } σ2 H2)
theorem qI {wi:TI} {g:TG} {tb:TS} {D:Ends} {σ:St} {H:Hp}:zM wi g tb D σ H=wi σ H fun J H1=>fZ J D g tb σ H1:=rfl
theorem kM {K:PySem.W.Frag} {c:Bool} {a p:Addr} {xs:List V} {Q:VK} {g:TG} {tc:TT} {te:TE} {σ0:St} {H0:Hp} (Pv:Nat→List V→St→Hp→Prop) (h0:Pv 0 [] σ0 H0) (hl:∀ i ys σ H,i≤xs.length→Pv i ys σ H→SqX K c H a xs)
   (hs:∀ (i:Nat) (x:V) (ys:List V) (σ:St) (H:Hp) (N:List V→St→Hp→Prop),(∀ ys' σ' H',Pv (i + 1) ys' σ' H'→N ys' σ' H')→xs[i]?=some x→Pv i ys σ H→g x σ H fun σ2 H2=>tc σ2 H2 fun b H3 =>
     if b=true then te σ2 H3 fun y H4=>H4 p=some (.lst ys)∧ys.length < sizeLine∧N (ys ++ [y]) σ2 (upd H4 p (.lst (ys ++ [y]))) else N ys σ2 H3)
   (hd:∀ ys σ H,Pv xs.length ys σ H→Q (.ref p) H):ja (Itx K c a) p Q g tc te σ0 H0:=by
 refine ⟨fun i m ys σ H=>m=xs.length - i∧i≤xs.length∧Pv i ys σ H,⟨xs.length,by simp,Nat.zero_le _,h0⟩,?_⟩
 rintro i m ys σ H ⟨rfl,hi,pv⟩
 have q:=hl i ys σ H hi pv
 by_cases hlt:i < xs.length
 · refine .inr ⟨?_,fun x H' y=>?_⟩
   · cases c
     · exact ⟨xs,xs[i],q,by simp [hlt]⟩
     · exact ⟨xs,xs[i],q,by simp [hlt]⟩
   · have e:H'=H∧xs[i]?=some x:=by
       cases c
       · exact ⟨y.1,y.2 xs q⟩
       · exact ⟨y.1,y.2 xs q⟩
     obtain ⟨rfl,hx⟩:=e
     exact hs i x ys σ _ (fun ys' σ' H'=>∃ m',m' < xs.length - i∧(m'=xs.length - (i + 1)∧i + 1≤xs.length∧Pv (i + 1) ys' σ' H')) (fun ys' σ' H' pv'=>⟨xs.length - (i + 1),by omega,rfl,hlt,pv'⟩) hx pv
 · have e:i=xs.length:=by omega
   subst e
   refine .inl ⟨?_,hd ys σ H pv⟩
   cases c
   · exact ⟨xs,q,Nat.le_refl _⟩
   · exact ⟨xs,q,Nat.le_refl _⟩
theorem lV {lo:Int} {n:Nat} {p:Addr} {Q:VK} {g:TG} {tc:TT} {te:TE} {σ0:St} {H0:Hp} (Pv:Nat→List V→St→Hp→Prop) (h0:Pv 0 [] σ0 H0)
   (hs:∀ (i:Nat) (ys:List V) (σ:St) (H:Hp) (N:List V→St→Hp→Prop),(∀ ys' σ' H',Pv (i + 1) ys' σ' H'→N ys' σ' H')→i < n→Pv i ys σ H→g (.int (lo + i)) σ H fun σ2 H2=>tc σ2 H2 fun b H3 =>
     if b=true then te σ2 H3 fun y H4=>H4 p=some (.lst ys)∧ys.length < sizeLine∧N (ys ++ [y]) σ2 (upd H4 p (.lst (ys ++ [y]))) else N ys σ2 H3)
   (hd:∀ ys σ H,Pv n ys σ H→Q (.ref p) H):ja (Itr lo n) p Q g tc te σ0 H0:=by
 refine ⟨fun i m ys σ H=>m=n - i∧i≤n∧Pv i ys σ H,⟨n,by simp,Nat.zero_le _,h0⟩,?_⟩
 rintro i m ys σ H ⟨rfl,hi,pv⟩
 by_cases hlt:i < n
 · refine .inr ⟨hlt,fun x H' y=>?_⟩
   obtain ⟨rfl,rfl⟩:=y
   exact hs i ys σ _ (fun ys' σ' H'=>∃ m',m' < n - i∧(m'=n - (i + 1)∧i + 1≤n∧Pv (i + 1) ys' σ' H')) (fun ys' σ' H' pv'=>⟨n - (i + 1),by omega,rfl,hlt,pv'⟩) hlt pv
 · have e:i=n:=by omega
   subst e
   exact .inl ⟨Nat.le_refl _,hd ys σ H pv⟩
theorem eC:bootBuiltins "len"=some (.builtin "len"):=by decide +kernel
theorem di:bootBuiltins "isinstance"=some (.builtin "isinstance"):=by decide +kernel
theorem tX:bootBuiltins "all"=some (.builtin "all"):=by decide +kernel
theorem Ak:bootBuiltins "min"=some (.builtin "min"):=by decide +kernel
theorem sG:bootBuiltins "sorted"=some (.builtin "sorted"):=by decide +kernel
theorem mB:bootBuiltins "list"=some (.type "list"):=by decide +kernel
theorem d6:bootBuiltins "tuple"=some (.type "tuple"):=by decide +kernel
section
variable {X:Cx} {a b o e:Expr} {es:List Expr} {ta tb to:TE} {t:TA} {pos apos cpos:Pos} {f name:Str} {T id:String} {r:V→List V→Hp→VK→Prop}
theorem mj (K:PySem.W.Frag) (h:X.K=K):dz X (.type "tuple") (fun xs H Q=>∃ p ys,xs=[.ref p]∧((SqL K H p ys∧∀ l,H l=none→Q (.ref l) (upd H l (.tup ys)))∨(SqT K H p ys∧Q (.ref p) H))):=by subst h; exact cJ
theorem u6 (K:PySem.W.Frag) (h:X.K=K):IxR X (ou K):=by subst h; exact bO
theorem qv (K:PySem.W.Frag) (h:X.K=K):IxR X (rT K):=by subst h; exact bF
end
theorem lO {x:Str} {k:NameKind}:∀ {l:List (Str × NameKind)},l.lookup x=some k→∃ y,(y,k)∈l
 | [],h=>by simp at h
 | (n,j) :: r,h=>by
   rw [List.lookup_cons] at h
   cases q:x == n with
   | true =>
     rw [q] at h
     cases h
     exact ⟨n,List.mem_cons_self⟩
   | false =>
     rw [q] at h
     obtain ⟨y,hy⟩:=lO h
     exact ⟨y,List.mem_cons_of_mem _ hy⟩
theorem kT {X:Cx} {Nc:List Str} {scope:Scope} (own:Nat) (hf:∀ y∈scope.names,y.2≠.free) (hc:∀ y∈scope.names,y.2≠.cell) (hk:scope.kind=.function) (hn:∀ y∈scope.names,y.2=.local→scope.names.lookup y.1=some .local)
   (hl:Nc.length=own):CompTxt X Nc own [] scope [] where
 clos:=closureFor_none hf
 kind:=hk
 nocell:=hc
 names:=hn
 cells:=fun x c h=>by cases h
 has:=fun x h=>by
   have key:∀ k,(relabel scope X.env).names.lookup x=some k→k≠.cell∧k≠.free:=fun k e=>by
     obtain ⟨y,hy⟩:=lO e
     obtain ⟨⟨n,k0⟩,hm,e2⟩:=List.mem_map.mp hy
     have h1:=hf _ hm
     have h2:=hc _ hm
     have e3:(k0 == NameKind.free)=false:=by simpa using h1
     simp only [e3,Bool.false_and,Bool.false_eq_true,if_false] at e2
     cases e2
     exact ⟨h2,h1⟩
   rcases h with h | h
   · exact absurd rfl (key _ h).1
   · exact absurd rfl (key _ h).2
 len:=by simpa using hl
 outer:=fun i x h=>by
   rw [List.getElem?_eq_none (by omega)] at h
   cases h
theorem jb {K:PySem.W.Frag} {a:Addr} {xs:List V} {g:TG} {tb:TS} {D:Ends} {σ:St} {H:Hp} (Pv:Nat→St→Hp→Prop) (h0:Pv 0 σ H) (hl:∀ i σ H,i≤xs.length→Pv i σ H→SqL K H a xs)
   (hs:∀ (i:Nat) (x:V) (σ:St) (H:Hp) (N:St→Hp→Prop),(∀ σ' H',Pv (i + 1) σ' H'→N σ' H')→xs[i]?=some x→Pv i σ H→g x σ H fun σ2 H2=>tb { D with nx:=N,ct:=N,bk:=D.nx } σ2 H2) (hd:∀ σ H,Pv xs.length σ H→D.nx σ H) :
   fZ (Itl K a) D g tb σ H:=wZ Pv h0 hl (fun i x σ H hx p=>hs i x σ H (Pv (i + 1)) (fun _ _ z=>z) hx p) hd
theorem oE {K:PySem.W.Frag} {a:Addr} {xs:List V} {g:TG} {tb:TS} {D:Ends} {σ:St} {H:Hp} (Pv:Nat→St→Hp→Prop) (h0:Pv 0 σ H) (hl:∀ i σ H,i≤xs.length→Pv i σ H→SqT K H a xs)
   (hs:∀ (i:Nat) (x:V) (σ:St) (H:Hp) (N:St→Hp→Prop),(∀ σ' H',Pv (i + 1) σ' H'→N σ' H')→xs[i]?=some x→Pv i σ H→g x σ H fun σ2 H2=>tb { D with nx:=N,ct:=N,bk:=D.nx } σ2 H2) (hd:∀ σ H,Pv xs.length σ H→D.nx σ H) :
   fZ (Itt K a) D g tb σ H:=my Pv h0 hl (fun i x σ H hx p=>hs i x σ H (Pv (i + 1)) (fun _ _ z=>z) hx p) hd
theorem fX {lo:Int} {n:Nat} {g:TG} {tb:TS} {D:Ends} {σ:St} {H:Hp} (Pv:Nat→St→Hp→Prop) (h0:Pv 0 σ H)
   (hs:∀ (i:Nat) (σ:St) (H:Hp) (N:St→Hp→Prop),(∀ σ' H',Pv (i + 1) σ' H'→N σ' H')→i < n→Pv i σ H→g (.int (lo + i)) σ H fun σ2 H2=>tb { D with nx:=N,ct:=N,bk:=D.nx } σ2 H2) (hd:∀ σ H,Pv n σ H→D.nx σ H) :
   fZ (Itr lo n) D g tb σ H:=tW Pv h0 (fun i σ H hi p=>hs i σ H (Pv (i + 1)) (fun _ _ z=>z) hi p) hd
theorem qy {c:TT} {tb:TS} {D:Ends} {σ:St} {H:Hp} (W:Nat→St→Hp→Prop) (n0:Nat) (h0:W n0 σ H)
   (hs:∀ (n:Nat) (σ:St) (H:Hp) (N:St→Hp→Prop),(∀ n' σ' H',n' < n→W n' σ' H'→N σ' H')→(∀ σ' H',N σ' H'→∃ m',m' < n∧W m' σ' H')→W n σ H →
     c σ H fun b H1=>if b=true then ∃ N:St→Hp→Prop,(∀ σ' H',N σ' H'→∃ m',m' < n∧W m' σ' H')∧tb { D with nx:=N,ct:=N,bk:=D.nx } σ H1 else D.nx σ H1):oC c tb D σ H :=
 ⟨W,⟨n0,h0⟩,fun n σ H w=>hs n σ H (fun σ' H'=>∃ m',m' < n∧W m' σ' H') (fun n' _ _ hn w'=>⟨n',hn,w'⟩) (fun _ _ z=>z) w⟩
theorem p60:(0:Int) < 10 ^ (60:Int).toNat:=Int.pow_pos (by decide)
open Pb
def dQ (r:Road):List V:=[.int r.a,.int r.b,.int r.t,.int r.u]
abbrev RoadsAt (H:Hp):List Addr→List Road→Prop:=Paired fun p r=>H p=some (.tup (dQ r))
theorem RoadsAt.same {H H':Hp} (e:Same H H') {ps:List Addr} {rs:List Road} (h:RoadsAt H ps rs):RoadsAt H' ps rs:=Paired.imp' (fun p r q=>e p _ q) h
theorem RoadsAt.get {H:Hp}:∀ {ps:List Addr} {rs:List Road} {i:Nat} {x:V},RoadsAt H ps rs→(ps.map V.ref)[i]?=some x→∃ p r,x=.ref p∧ps[i]?=some p∧rs[i]?=some r∧H p=some (.tup (dQ r))
 | _,_,i,x,.nil,e=>by simp at e
 | _,_,0,x,.cons (a:=p) (b:=r) h hs,e=>⟨p,r,by simpa using e.symm,by simp,by simp,h⟩
 | a :: l1,_,i + 1,x,.cons h hs,e=>by
   have e':(List.map V.ref l1)[i]?=some x:=by simpa using e
   obtain ⟨p,r,h1,h2,h3,h4⟩:=RoadsAt.get hs e'
   exact ⟨p,r,h1,by simpa using h2,by simpa using h3,h4⟩
theorem Same.tup {K:PySem.W.Frag} {H H':Hp} {a:Addr} {xs:List V} (e:Same H H') (h:SqT K H a xs):SqT K H' a xs:=by
 rcases h with (h | ⟨o,h⟩) | h
 · exact .inl (.inl (e _ _ h))
 · exact .inl (.inr ⟨o,e _ _ h⟩)
 · exact .inr h
theorem Same.sqX {K:PySem.W.Frag} {H H':Hp} {c:Bool} {a:Addr} {xs:List V} (e:Same H H') (h:SqX K c H a xs):SqX K c H' a xs:=by
 cases c
 · exact Same.tup e h
 · exact Same.seq e h
theorem Same.new {H:Hp} {p:Addr} (o:HO) (h:H p=none):Same H (upd H p o):=fun b u e=>by rw [ap (aY e h)]; exact e
end L2
set_option Elab.async false
set_option linter.all false
set_option maxRecDepth 100000
namespace L2
open PySem PySem.Spec PyProof.Rows
abbrev bmV:List Value:=[.type "ValueError",.type "Exception",.type "BaseException",.type "object"]
structure XCls (K:PySem.W.Frag) (C:Addr):Prop where
 ty:PySem.W.typeIn K (.ref C)=some (.type "type")
 ga:PySem.W.findIn K (.ref C) "__getattribute__"=some (some (.builtin "BaseException.__getattribute__"))
 gt:PySem.W.findIn K (.ref C) "__getattr__"=some none
 cl:PySem.W.findIn K (.ref C) "__class__"=some (some (.builtin "object.__class__"))
 gs:PySem.W.specialIn K (.builtin "object.__class__") "__get__"=some (some (.builtin "getset_descriptor.__get__"))
 tk:PySem.W.takesIn K (.builtin "object.__class__")=some true
 mo:PySem.W.mroIn K C (.type "object")=some true
 mb:PySem.W.mroIn K C (.type "BaseException")=some true
 hd:PySem.W.hasDictIn K C=true
 sf:PySem.W.mroIn K C (.ref C)=some true
theorem tD {K:PySem.W.Frag} {C:Addr} {od:Option Obj} {name:Str} {a g:Value} (hc:(PySem.W.clsIn K C).isSome=true) (ha:PySem.W.findIn K (.ref C) name=some (some a)) (hg:PySem.W.specialIn K a "__get__"=some (some g)) (ht:PySem.W.takesIn K a=some true) :
   PySem.W.findObj K C od name=some (.bind g a):=by
 obtain ⟨cd,hc⟩:=Option.isSome_iff_exists.mp hc
 unfold PySem.W.findObj
 rw [hc,Option.bind_some,ha,Option.bind_some]
 simp [hg,ht]
section
variable {prog:Program} {w:World} {A:Around} {E:Value→Shared→Prop} {s:Shared} {K:PySem.W.Frag} {x C:Addr} {ox:Obj} {od:Option Obj}
theorem sv {M:Model} {nv:Value} {Q:Unit→Shared→Prop} (X:K.In s.heap) (I:PySem.W.InstAt s.heap x ox C od) (c:XCls K C) (h:Q () s):wpAny M A (checkBuiltinCall "BaseException.__getattribute__" ⟨[.ref x,nv],[]⟩) Q E s:=by
 obtain ⟨hh,g,dr,t,os⟩:=s
 have hk:builtinKind "BaseException.__getattribute__"=some .slot:=by decide +kernel
 have hs:splitId "BaseException.__getattribute__"=some ("BaseException","__getattribute__"):=by decide +kernel
 have L0:=I.type (M:=M)
 have L1:=PySem.W.looks_mroIn (M:=M) X c.mb
 have ha:=F.args_bexc_ga (.ref x) nv
 simp only [checkBuiltinCall,hk,hs]
 unfold isInstance
 repeat (first | lk | wp_step)
 exact h
theorem uo {Q:Option Value→Shared→Prop} (X:K.In s.heap) (I:PySem.W.InstAt s.heap x ox C od) (c:XCls K C) (h:Q (some (.ref C)) { s with toks:=s.toks + 1 }):wpAny (model prog w) A (getAttr? (.ref x) "__class__") Q E s:=by
 obtain ⟨hh,g,dr,t,os⟩:=s
 have hc:(PySem.W.clsIn K C).isSome=true:=by
   obtain ⟨cd,e,_⟩:=PySem.W.any_some c.hd
   rw [e]
   rfl
 have L0:=I.type (M:=model prog w)
 have L1:=PySem.W.looks_findIn (M:=model prog w) X c.ga
 have L2:=PySem.W.looks_findIn (M:=model prog w) X c.gt
 have L3:=PySem.W.looks_find (M:=model prog w) X I (tD (od:=od) hc c.cl c.gs c.tk)
 have n2:(Value.builtin "BaseException.__getattribute__" == Value.builtin "object.__getattribute__")=false:=by decide +kernel
 have n1:(onTheHeap (Value.ref C) && Value.builtin "BaseException.__getattribute__" == Value.builtin "object.__getattribute__")=false:=by rw [n2]; rfl
 have b1:=F.excAttr_ValueError.ga.bind (.ref x)
 unfold getAttr? getAttrBy? getAttrBy
 refine wpAny_bind (wpAny_mkText (wpAny_bind (wpAny_attempt (wpAny_holding (wpAny_bind (L0.at (wpAny_bind (L1.at ?_))))))))
 dsimp only
 rw [n1]
 simp only [Bool.false_eq_true,if_false]
 unfold getAttrByItsOwn hookBefore callGetattribute boundAndCalled
 simp only [onTheHeap,Bool.and_false,Bool.false_eq_true,if_false,if_true]
 refine wpAny_bind (L2.at (wpAny_bind (wpAny_attempt (wpAny_holding (wpAny_bind (wpAny_of_eq b1 ?_))))))
 refine wpAny_call (codeAny_call_builtin F.excAttr_ValueError.ga.plain F.entry_bexc_ga (sv X I c ?_))
 unfold Builtin.«object.__getattribute__»
 repeat lk
 refine wpAny_run (h:=none) (PySem.W.class_get (s:=⟨hh,g,dr,t + 1,os⟩) (ox:=ox) (od:=od) X I c.mo ?_)
 refine wpAny_pure (wpAny_pure ?_)
 exact PySem.W.handed_on rfl (wpAny_pure h)
theorem oK (c:XCls K C):PySem.W.KitX K (.ref x) (.ref C) (fun h=>PySem.W.InstAt h x ox C od) where
 ty:=fun _ _ _ I=>I.type
 it:=fun _ _ X _=>by
   obtain ⟨cd,e,_⟩:=PySem.W.any_some c.hd
   unfold PySem.W.clsIn at e
   split at e
   · rename_i ho
     intro A' Q' E' s' k q
     unfold isType loadHead
     exact wpAny_bind (wpAny_loadPart (k _ _ (X _ _ ho)) (wpAny_pure q))
   · cases e
 ne:=fun h tp dd its n sl X htp=>by
   obtain ⟨cd,e,_⟩:=PySem.W.any_some c.hd
   refine Bool.eq_false_iff.mpr fun q=>?_
   have z:C=tp:=Value.ref.inj (beq_iff_eq.mp q)
   subst z
   unfold PySem.W.clsIn at e
   split at e
   · rename_i ho
     cases (X _ _ ho).symm.trans htp
   · cases e
 ca:=fun X I k=>uo X I c k
end
end L2
set_option Elab.async false
set_option linter.all false
set_option maxRecDepth 100000
namespace L2
open PySem PySem.Spec PyProof.Rows
def dS (h:Heap) (ea:Addr) (cls:Value) (od:Option Addr) (head:Value):Prop:=∃ oe vs,h.get? ea=some oe∧oe.cls=cls∧oe.dict=od∧oe.data=.fields vs∧vs[1]?=some head
def TbO (h:Heap) (T:Addr) (fl:Value):Prop:=∃ oT ts,h.get? T=some oT∧oT.data=.fields ts∧ts[3]?=some fl
structure Err (h:Heap) (ea T:Addr) (cls:Value) (od:Option Addr) (fl:Value):Prop where
 e:dS h ea cls od (.ref T)
 t:TbO h T fl
 ne:T≠ea
structure Kept (fs xs:List Addr) (h h':Heap):Prop where
 keep:∀ b o,h.get? b=some o→b ∉ fs→b ∉ xs→h'.get? b=some o
 slot:∀ b o,h.get? b=some o→b∈fs→b ∉ xs→∃ sl,h'.get? b=some { o with slots:=sl }
 there:∀ b o,h.get? b=some o→∃ o',h'.get? b=some o'
theorem Kept.mono {fs xs ys:List Addr} {h h':Heap} (k:Kept fs xs h h') (s:∀ b∈xs,b∈ys):Kept fs ys h h':=⟨fun b o e f x=>k.keep b o e f fun z=>x (s b z),fun b o e f x=>k.slot b o e f fun z=>x (s b z),k.there⟩
theorem Kept.trans {fs xs:List Addr} {h h1 h2:Heap} (a:Kept fs xs h h1) (b:Kept fs xs h1 h2):Kept fs xs h h2 where
 keep:=fun c o e f x=>b.keep c o (a.keep c o e f x) f x
 slot:=fun c o e f x=>by
   obtain ⟨s1,e1⟩:=a.slot c o e f x
   obtain ⟨s2,e2⟩:=b.slot c _ e1 f x
   exact ⟨s2,e2⟩
 there:=fun c o e=>by
   obtain ⟨o1,e1⟩:=a.there c o e
   exact b.there c o1 e1
theorem Kept.of_all {fs xs:List Addr} {h h':Heap} (k:∀ b o,h.get? b=some o→h'.get? b=some o):Kept fs xs h h':=⟨fun b o e _ _=>k b o e,fun b o e _ _=>⟨o.slots,k b o e⟩,fun b o e=>⟨o,k b o e⟩⟩
theorem kG {fs xs:List Addr} {h:Heap} {a:Addr} {oa:Obj} {vs:Array Value} {i:Nat} {v:Value} (ha:h.get? a=some oa) (hd:oa.data=.fields vs) (hx:a∈xs):Kept fs xs h (h.update a (Obj.mapFields (·.setIfInBounds i v))):=by
 have oth:∀ b o,h.get? b=some o→b ∉ xs→(h.update a (Obj.mapFields (·.setIfInBounds i v))).get? b=some o:=fun b o e x=>by
   rw [Heap.get?_update_other _ _ (fun (z:a=b)=>x (z ▸ hx))]
   exact e
 refine ⟨fun b o e _ x=>oth b o e x,fun b o e _ x=>⟨o.slots,oth b o e x⟩,fun b o e=>?_⟩
 by_cases z:b=a
 · subst z
   exact ⟨_,Heap.get?_update_self _ ha (Obj.isFreed_of_fields (Obj.data_mapFields hd _))⟩
 · rw [Heap.get?_update_other _ _ (Ne.symm z)]
   exact ⟨o,e⟩
theorem uO {h:Heap} {ea:Addr} {cls hd v:Value} {od:Option Addr} (e:dS h ea cls od hd):dS (h.update ea (Obj.mapFields (·.setIfInBounds 1 v))) ea cls od v:=by
 obtain ⟨oe,vs,h1,h2,h3,h4,h5⟩:=e
 have sz:1 < vs.size:=(Array.getElem?_eq_some_iff.mp h5).1
 refine ⟨_,_,Heap.get?_update_self _ h1 (Obj.isFreed_of_fields (Obj.data_mapFields h4 _)),?_,?_,Obj.data_mapFields h4 _,by simp [sz]⟩
 · rw [← h2]; exact Obj.cls_mapFields _ _
 · rw [← h3]; obtain ⟨c,d,dt,sl⟩:=oe; cases dt <;> rfl
theorem lB {h:Heap} {ea a:Addr} {cls hd:Value} {od:Option Addr} {f:Obj→Obj} (e:dS h ea cls od hd) (ne:a≠ea):dS (h.update a f) ea cls od hd:=by
 obtain ⟨oe,vs,h1,h2⟩:=e
 exact ⟨oe,vs,by rw [Heap.get?_update_other _ _ ne]; exact h1,h2⟩
theorem mS {h h':Heap} {ea:Addr} {cls hd:Value} {od:Option Addr} (e:dS h ea cls od hd) (k:∀ o,h.get? ea=some o→h'.get? ea=some o):dS h' ea cls od hd:=by
 obtain ⟨oe,vs,h1,h2⟩:=e
 exact ⟨oe,vs,k _ h1,h2⟩
theorem sY {h base:Heap} {ea:Addr} {cls hd:Value} {od:Option Addr} {l:List Env} (e:dS h ea cls od hd) (f:h.FunFrames base l):ea ∉ frs l:=fun z=>by
 obtain ⟨oe,vs,h1,_,_,h4,_⟩:=e
 obtain ⟨_,o,ho,hn⟩:=f.mem z
 rw [h1] at ho
 cases ho
 exact hn vs h4
theorem yc {h base:Heap} {T:Addr} {fl:Value} {l:List Env} (e:TbO h T fl) (f:h.FunFrames base l):T ∉ frs l:=fun z=>by
 obtain ⟨oe,vs,h1,h4,_⟩:=e
 obtain ⟨_,o,ho,hn⟩:=f.mem z
 rw [h1] at ho
 cases ho
 exact hn vs h4
section
variable {M:Model} {A:Around} {E:Value→Shared→Prop} {s:Shared} {Q:Unit→Shared→Prop} {fs:List Addr} {ea T L:Addr} {cls fl hd:Value} {od:Option Addr} {base:Heap} {env:Env} {outer:List Env}
theorem gP (r:Err s.heap ea T cls od fl) (h:∀ h',Err h' ea T cls od .none→Kept fs [T] s.heap h'→Q () { s with heap:=h' }):wpAny M A (setFlight (.ref ea) none) Q E s:=by
 obtain ⟨⟨oe,vs,h1,h2,h3,h4,h5⟩,⟨oT,ts,t1,t2,t3⟩,ne⟩:=r
 have sz:3 < ts.size:=(Array.getElem?_eq_some_iff.mp t3).1
 unfold setFlight
 refine wpAny_bind (wpAny_field h1 h4 h5 ?_)
 rw [if_pos (by simp:(Value.ref T != Value.none)=true)]
 refine wpAny_setField t1 t2 sz (h _ ⟨lB ⟨oe,vs,h1,h2,h3,h4,h5⟩ ne,⟨_,_,Heap.get?_update_self _ t1 (Obj.isFreed_of_fields (Obj.data_mapFields t2 _)),Obj.data_mapFields t2 _,by simp [sz]⟩,ne⟩ (kG t1 t2 (by simp)))
theorem o0 {head:Value} {hadNext:Bool} (hfr:A.frames=some (env :: outer)) (hl:s.heap.FunFrames base (env :: outer)) (hf:env.frame=some L) (r:dS s.heap ea cls od hd)
   (h:∀ h' T',Err h' ea T' cls od (rawInt L)→Kept (frs (env :: outer)) [ea] s.heap h'→s.heap.get? T'=none→Q () { s with heap:=h' }) :
   wpAny M A (do let a ← frameOf env; let pl ← entryPlaceOf L hadNext; let b ← EntryCells.newEntry head a .none (rawInt L) .none pl; setField (.ref ea) 1 b) Q E s:=by
 have nf:=sY r hl
 refine wpAny_bind (wpAny_frameOf_fun hfr hl hf fun g1 so=>wpAny_bind (wpAny_entryPlaceOf fun pl hpl=>?_))
 unfold EntryCells.newEntry newFields
 refine wpAny_bind (wpAny_newObj_type ?_ (hpl.sizeOk5 _ _ _ _ _))
 have r1:dS g1 ea cls od hd:=mS r fun o e=>(so.2.1 ea nf).trans e
 generalize ht:({ cls:=.type "traceback",dict:=none,data:=.fields ([head,.ref L,.none,rawInt L,.none] ++ (if pl.isEmpty then List.replicate 6 Value.none else pl)).toArray }:Obj)=tb
 have r2:dS (g1.push tb) ea cls od hd:=mS r1 fun o e=>Heap.get?_push_of_some _ e
 obtain ⟨oe,vs,e1,e2,e3,e4,e5⟩:=id r2
 have lt:ea < g1.objs.size:=by
   obtain ⟨_,_,e,_⟩:=r1
   exact Heap.lt_size e
 have hT:(g1.push tb).get? g1.objs.size=some tb:=Heap.get?_push_size g1 (by rw [← ht]; rfl)
 refine wpAny_setField e1 e4 (Array.getElem?_eq_some_iff.mp e5).1 (h _ g1.objs.size ⟨uO r2,⟨tb,([head,.ref L,.none,rawInt L,.none] ++ (if pl.isEmpty then List.replicate 6 Value.none else pl)).toArray,?_,by rw [← ht],by simp⟩,Nat.ne_of_gt lt⟩ ?_ ?_)
 · rw [Heap.get?_update_other _ _ (Nat.ne_of_lt lt)]
   exact hT
 · have k1:Kept (frs (env :: outer)) [ea] s.heap g1:=⟨fun b o e f _=>(so.2.1 b f).trans e,fun b o e _ _=>so.2.2 b o e,fun b o e=>by
     obtain ⟨sl,z⟩:=so.2.2 b o e
     exact ⟨_,z⟩⟩
   exact k1.trans ((Kept.of_all fun b o e=>Heap.get?_push_of_some _ e).trans (kG e1 e4 (by simp)))
 · exact Heap.get?_none_of_le (by rw [so.1]; exact Nat.le_refl _)
theorem xf (hfr:A.frames=some (env :: outer)) (hl:s.heap.FunFrames base (env :: outer)) (hf:env.frame=some L) (r:dS s.heap ea cls od .none)
   (h:∀ h' T',Err h' ea T' cls od (rawInt L)→Kept (frs (env :: outer)) [ea] s.heap h'→s.heap.get? T'=none→Q () { s with heap:=h' }):wpAny M A (noteFrame (.ref ea) env) Q E s:=by
 obtain ⟨oe,vs,e1,e2,e3,e4,e5⟩:=id r
 unfold noteFrame
 simp only [hf]
 refine wpAny_bind (wpAny_field e1 e4 e5 ?_)
 rw [if_neg (by decide)]
 exact o0 hfr hl hf r h
theorem qo (hfr:A.frames=some (env :: outer)) (hl:s.heap.FunFrames base (env :: outer)) (hf:env.frame=some L) (r:Err s.heap ea T cls od .none)
   (h:∀ h' T',Err h' ea T' cls od (rawInt L)→Kept (frs (env :: outer)) [ea,T] s.heap h'→s.heap.get? T'=none→Q () { s with heap:=h' }):wpAny M A (noteFrame (.ref ea) env) Q E s:=by
 have nT:=yc r.t hl
 obtain ⟨⟨oe,vs,e1,e2,e3,e4,e5⟩,⟨oT,ts,t1,t2,t3⟩,ne⟩:=id r
 unfold noteFrame
 simp only [hf]
 refine wpAny_bind (wpAny_field e1 e4 e5 ?_)
 rw [if_pos (by simp:(Value.ref T != Value.none)=true)]
 refine wpAny_bind (wpAny_field t1 t2 t3 ?_)
 rw [if_neg (by simp [rawInt])]
 have k1:Kept (frs (env :: outer)) [ea,T] s.heap (s.heap.update T (Obj.mapFields (·.setIfInBounds 3 Value.none))):=kG t1 t2 (by simp)
 refine wpAny_bind (wpAny_setField t1 t2 (Array.getElem?_eq_some_iff.mp t3).1 ?_)
 refine o0 hfr (hl.of_keeps fun b o e nf=>⟨o,?_,rfl⟩) hf (lB r.e ne) fun h' T' r' k2 n=>h h' T' r' (k1.trans (k2.mono (by simp))) ?_
 · by_cases z:b=T
   · subst z
     rw [t1] at e
     cases e
     exact absurd t2 (nf ts)
   · rw [Heap.get?_update_other _ _ (Ne.symm z)]
     exact e
 · cases q:s.heap.get? T' with
   | none=>rfl
   | some o =>
     obtain ⟨o',z⟩:=k1.there T' o q
     rw [z] at n
     cases n
theorem ni (hfr:A.frames=some (env :: outer)) (hl:s.heap.FunFrames base (env :: outer)) (hf:env.frame=some L) (r:dS s.heap ea cls od .none)
   (h:∀ h' T',Err h' ea T' cls od .none→Kept (frs (env :: outer)) [ea] s.heap h'→s.heap.get? T'=none→Q () { s with heap:=h' }):wpAny M A (leaving env (.ref ea)) Q E s:=by
 unfold leaving
 refine wpAny_bind (xf hfr hl hf r fun h1 T1 r1 k1 n1=>gP (fs:=frs (env :: outer)) (s:={ s with heap:=h1 }) r1 fun h2 r2 k2=>h h2 T1 r2 ⟨fun b o e f x=>k2.keep b o (k1.keep b o e f x) f ?_,fun b o e f x=>?_,fun b o e=>?_⟩ n1)
 · simp only [List.mem_singleton]
   rintro rfl
   rw [n1] at e
   cases e
 · obtain ⟨s1,e1⟩:=k1.slot b o e f x
   obtain ⟨s2,e2⟩:=k2.slot b _ e1 f (by
     simp only [List.mem_singleton]
     rintro rfl
     rw [n1] at e
     cases e)
   exact ⟨s2,e2⟩
 · obtain ⟨o1,e1⟩:=k1.there b o e
   exact k2.there b o1 e1
theorem uM (hfr:A.frames=some (env :: outer)) (hl:s.heap.FunFrames base (env :: outer)) (hf:env.frame=some L) (r:Err s.heap ea T cls od .none)
   (h:∀ h' T',Err h' ea T' cls od .none→Kept (frs (env :: outer)) [ea,T] s.heap h'→s.heap.get? T'=none→Q () { s with heap:=h' }):wpAny M A (leaving env (.ref ea)) Q E s:=by
 unfold leaving
 refine wpAny_bind (qo hfr hl hf r fun h1 T1 r1 k1 n1=>gP (fs:=frs (env :: outer)) (s:={ s with heap:=h1 }) r1 fun h2 r2 k2=>h h2 T1 r2 ⟨fun b o e f x=>k2.keep b o (k1.keep b o e f x) f ?_,fun b o e f x=>?_,fun b o e=>?_⟩ n1)
 · simp only [List.mem_singleton]
   rintro rfl
   rw [n1] at e
   cases e
 · obtain ⟨s1,e1⟩:=k1.slot b o e f x
   obtain ⟨s2,e2⟩:=k2.slot b _ e1 f (by
     simp only [List.mem_singleton]
     rintro rfl
     rw [n1] at e
     cases e)
   exact ⟨s2,e2⟩
 · obtain ⟨o1,e1⟩:=k1.there b o e
   exact k2.there b o1 e1
end
def CXe (P:Program) (w:World):CXT:=fun outer H s E e s'=>∃ (ea T:Addr) (cls:Value) (od:Option Addr) (H':Hp),e=.ref ea∧s'.os=s.os∧AllBare s'.gens∧Un (frs outer) [] H H' s.heap s'.heap∧HOk P w H' s'.heap ∧
 H' ea=none∧H' T=none∧s.heap.get? ea=none∧s.heap.get? T=none∧Err s'.heap ea T cls od .none∧E cls od H'
theorem aG {P:Program} {w:World}:aL (CXe P w):=fun outer H s e s' h=>by
 obtain ⟨_,_,_,_,_,_,_,_,_,_,_,_,_,_,_,z⟩:=h
 exact z
theorem io {P:Program} {w:World} {H:Hp} {h h':Heap} {fs xs:List Addr} (x:HOk P w H h) (k:Kept fs xs h h') (f:∀ b∈fs,H b=none) (u:∀ b∈xs,H b=none):HOk P w H h':=fun a o e=>by
 refine (x a o e).stay (fun b ob hb q=>k.keep b ob q ?_ ?_) (fun _ q=>q) fun _ _ q=>q
 · intro z
   rcases hb with rfl | hb
   · rw [f _ z] at e; cases e
   · rw [f _ z] at hb; cases hb
 · intro z
   rcases hb with rfl | hb
   · rw [u _ z] at e; cases e
   · rw [u _ z] at hb; cases hb
theorem ji {P:Program} {w:World} {H:Hp} {h:Heap} {b:Addr} (x:HOk P w H h) (n:h.get? b=none):H b=none:=by
 cases q:H b with
 | none=>rfl
 | some o =>
   have lt:=x.lt q
   cases z:h.get? b with
   | some o'=>rw [z] at n; cases n
   | none =>
     exfalso
     have:=(x b o q)
     cases o with
     | lst xs=>obtain ⟨_,_,_,_,e⟩:=this; rw [n] at e; cases e
     | tup xs=>obtain ⟨_,_,_,ob,e,_⟩:=this; rw [n] at e; cases e
     | dK kvs=>obtain ⟨_,_,_,_,ob,_,_,e,_⟩:=this; rw [n] at e; cases e
     | dT kvs=>obtain ⟨_,_,_,_,ob,_,_,e,_⟩:=this; rw [n] at e; cases e
     | set S m=>obtain ⟨ob,_,_,_,e,_⟩:=this; rw [n] at e; cases e
     | ins C dx fs=>obtain ⟨_,_,_,e,_⟩:=this; rw [n] at e; cases e
     | own y=>obtain ⟨_,e⟩:=this; rw [n] at e; cases e
     | xd fs=>obtain ⟨_,⟨_,_,_,e,_⟩,_⟩:=this; rw [n] at e; cases e
     | rng lo hi=>obtain ⟨_,_,_,e⟩:=this; rw [n] at e; cases e
     | frz ob u=>obtain ⟨e,_⟩:=this; rw [n] at e; cases e
     | tbl ps=>have e:h.get? b=some _:=this; rw [n] at e; cases e
     | met f y=>have e:h.get? b=some _:=this; rw [n] at e; cases e
     | ext φ=>obtain ⟨_,⟨_,e⟩,_⟩:=this; rw [n] at e; cases e
section
variable {P:Program} {w:World} {K:PySem.W.Frag} {mg:Str→Option Value} {base:Heap} {N:List Str} {qual:Str} {scope:Scope} {f:Addr} {cd:Value} {A:Around} {outer:List Env} {s:Shared} {H:Hp} {E:XK}
theorem kj {CX:CXT} {pins:List (Addr × Obj)} {σ:St} {H':Hp} {s':Shared} {h':Heap} {xs:List Addr} (J:Inv (eT CX P w K mg base N qual scope f cd A outer s H E) pins σ H' s') (k:Kept (frs (envOfC qual scope s.heap.objs.size f cd :: outer)) xs s'.heap h') (nx:∀ b∈xs,s.heap.get? b=none) :
   Un (frs outer) [] H H' s.heap h':=by
 have b0:Un (frs outer) [] H H' s.heap s'.heap:=J.base
 have nl:∀ b o,s.heap.get? b=some o→b ∉ xs:=fun b o e z=>by rw [nx b z] at e; cases e
 have nf:∀ b o,s.heap.get? b=some o→b ∉ frs outer→b ∉ frs (envOfC qual scope s.heap.objs.size f cd :: outer):=fun b o e z m=>by
   unfold frs at m z
   rw [List.filterMap_cons] at m
   have:(envOfC qual scope s.heap.objs.size f cd).frame=some s.heap.objs.size:=rfl
   rw [this] at m
   rcases List.mem_cons.mp m with m | m
   · exact absurd (Heap.lt_size e) (by rw [m]; exact Nat.lt_irrefl _)
   · exact z m
 refine ⟨fun b o e n hf hx=>k.keep b o (b0.keep b o e n hf hx) (nf b o e hf) (nl b o e),fun b o e n hf hx=>?_,b0.free,fun b o e hx=>?_,b0.tups,b0.frzs,b0.tbls⟩
 · obtain ⟨sl,e1⟩:=b0.slot b o e n hf hx
   by_cases m:b∈frs (envOfC qual scope s.heap.objs.size f cd :: outer)
   · obtain ⟨s2,e2⟩:=k.slot b _ e1 m (nl b o e)
     exact ⟨s2,e2⟩
   · exact ⟨sl,k.keep b _ e1 m (nl b o e)⟩
 · obtain ⟨o1,e1⟩:=b0.there b o e hx
   exact k.there b o1 e1
theorem eg {CX:CXT} {pins:List (Addr × Obj)} {σ:St} {H':Hp} {s':Shared} (J:Inv (eT CX P w K mg base N qual scope f cd A outer s H E) pins σ H' s') {b:Addr} (n:s'.heap.get? b=none):s.heap.get? b=none:=by
 cases q:s.heap.get? b with
 | none=>rfl
 | some o =>
   have b0:Un (frs outer) [] H H' s.heap s'.heap:=J.base
   obtain ⟨o',e⟩:=b0.there b o q (by simp)
   rw [n] at e
   cases e
theorem bh:hV (CXe P w) (eT (CXe P w) P w K mg base N qual scope f cd A outer s H E) E:=by
 intro pins σ H1 s1 e s' I h
 obtain ⟨ea,T,cls,od,H',rfl,os,bare,un,hok,n1,n2,f1,f2,er,q⟩:=h
 have J:=I.call' (ch:=[]) os un hok bare (by simp)
 refine uM (base:=base) J.ok.frames J.stack rfl er fun h' T' er' k nT=>?_
 have fr:∀ b∈frs (envOfC qual scope s.heap.objs.size f cd :: outer),H' b=none:=J.stkFree
 refine ⟨ea,T',cls,od,H',rfl,J.os,J.bare,kj J k ?_,io hok k fr ?_,n1,ji hok nT,eg I f1,eg J nT,er',q⟩
 · intro b hb
   simp only [List.mem_cons,List.not_mem_nil,or_false] at hb
   rcases hb with rfl | rfl
   · exact eg I f1
   · exact eg I f2
 · intro b hb
   simp only [List.mem_cons,List.not_mem_nil,or_false] at hb
   rcases hb with rfl | rfl
   · exact n1
   · exact n2
end
def sX (X:Cx) (E:XK):Prop:=∀ (pins:List (Addr × Obj)) (σ:St) (H:Hp) (s:Shared) (ea:Addr) (cls:Value) (od:Option Addr) (h':Heap) (tk:Nat),Inv X pins σ H s→(∀ b o,s.heap.get? b=some o→h'.get? b=some o)→s.heap.get? ea=none→dS h' ea cls od .none→E cls od H →
 X.xe (.ref ea) { s with heap:=h',toks:=tk }
section
variable {P:Program} {w:World} {K:PySem.W.Frag} {mg:Str→Option Value} {base:Heap} {N:List Str} {qual:Str} {scope:Scope} {f:Addr} {cd:Value} {A:Around} {outer:List Env} {s:Shared} {H:Hp} {E:XK}
theorem jO:sX (eT (CXe P w) P w K mg base N qual scope f cd A outer s H E) E:=by
 intro pins σ H1 s1 ea cls od h' tk I kp nw er q
 have J:=I.kept (t':=tk) kp
 refine ni (base:=base) J.ok.frames J.stack rfl er fun h2 T' er' k nT=>?_
 have fr:∀ b∈frs (envOfC qual scope s.heap.objs.size f cd :: outer),H1 b=none:=J.stkFree
 refine ⟨ea,T',cls,od,H1,rfl,J.os,J.bare,kj J k ?_,io J.hok k fr ?_,ji I.hok nw,ji J.hok nT,eg I nw,eg J nT,er',q⟩
 · intro b hb
   rw [List.mem_singleton.mp hb]
   exact eg I nw
 · intro b hb
   rw [List.mem_singleton.mp hb]
   exact ji I.hok nw
end
end L2
set_option Elab.async false
set_option linter.all false
set_option maxRecDepth 100000
namespace L2
open PySem PySem.Spec PyProof.Rows
def mI (K:PySem.W.Frag) (C:Addr):Prop:=∃ (nm qn:Str) (N:Addr) (bs bm:List Value) (hdct:Bool) (sn:List Str) (sub:List Value) (ab:Bool) (col:Option Bool) (dd:Option Addr) (k0 k1 k2 k3 k5:Option Value),
   K.lookup C=some (excClassObj nm qn C N bs bm hdct sn sub ab col dd k0 k1 k2 k3 k5 "ValueError.__new__")∧PySem.W.nsOkIn K N=true∧PySem.W.nsIn K N "__init__"=some none∧PySem.W.tailIn K bmV bm=true
theorem jF {K:PySem.W.Frag} {C:Addr} {o:Obj} (nm qn:Str) (N:Addr) (bs bm:List Value) (hdct:Bool) (sn:List Str) (sub:List Value) (ab:Bool) (col:Option Bool) (dd:Option Addr) (k0 k1 k2 k3 k5:Option Value) (l:K.lookup C=some o)
   (e:o=excClassObj nm qn C N bs bm hdct sn sub ab col dd k0 k1 k2 k3 k5 "ValueError.__new__") (a:PySem.W.nsOkIn K N=true) (b:PySem.W.nsIn K N "__init__"=some none) (c:PySem.W.tailIn K bmV bm=true):mI K C:=by
 subst e
 exact ⟨_,_,_,_,_,_,_,_,_,_,_,_,_,_,_,_,l,a,b,c⟩
def sO (C:Addr) (E:XK) (t:TA):TS:=fun _ σ H=>t σ H fun vs H1=>vs.length≤sizeLine∧E (.ref C) none H1
section
variable {X:Cx} {x:Str} {np cpos pos:Pos} {e0:Expr} {es:List Expr} {t:TA} {C:Addr} {E:XK}
theorem ie (q:mI X.K C) (hc:X.calm=true) (hR:sX X E) (hg:Gl X x) (hm:X.mg x=some (.ref C)) (ha:PA X (e0 :: es) t) (hdb:(x == ("__debug__":Str))=false:=by decide)
   (he:starEach (e0 :: es) X.env=(false,eval e0 X.env) :: starEach es X.env:=by rfl) (hpl:(backTo cpos (starEach es X.env)).any (·.1)=false:=by rfl):PS X (.Raise (some (.Call (.Name x np) (e0 :: es) [] cpos)) none pos) (sO C E t):=by
 intro pins s σ H D I h
 obtain ⟨nm,qn,N,bs,bm,hdct,sn,sub,ab,col,dd,k0,k1,k2,k3,k5,ho,z5,z6,z4⟩:=q
 have B:=I.mod.kin
 have T0:=PySem.W.tail_of_in B z4
 have N0:X.base.Ns N (X.base.nsMap N):=.of_isNs (PySem.W.isNs_of_in B z5)
 have hp:(backTo cpos (starEach (e0 :: es) X.env)).any (·.1)=false:=by
   rw [he]
   show (false || (backTo cpos (starEach es X.env)).any (·.1))=false
   rw [hpl]
   rfl
 refine wpAny_Raise_call_subT (C:=C) (nm:=nm) (q:=qn) (N:=N) (bs:=bs) (bm:=bm) (hdct:=hdct) (sn:=sn) (sub:=sub) (ab:=ab) (col:=col) (dd:=dd) (k0:=k0) (k1:=k1) (k2:=k2) (k3:=k3) (k5:=k5) PySem.F.excBase_ValueError
   (T0.hasType (by decide +kernel)) (I.ok.hd hc) hp (PySem.W.nsMap_none_of_in B z5 z6) (dH I hg hm ⟨rfl,?_⟩ hdb)
 have g:=ha cpos pins s σ H _ I h
 rw [he] at g ⊢
 refine Calls.evalArgs_plain (thn g fun us s1 ⟨vs,H1,I1,r1,q1⟩=>⟨rfl,by show us.length≤_; rw [← r1.length]; exact q1.1,I1.bk _ _ (B _ _ ho),N0.keeps I1.bk,T0.keeps I1.bk,fun h' ea m=>?_⟩)
 obtain ⟨tt,m1,_,_⟩:=m.there
 exact hR pins σ H1 s1 ea (.ref C) none h' s1.toks I1 m.keeps m.new ⟨_,_,m1,rfl,rfl,rfl,rfl⟩ q1.2
end
def XP (CX:CXT) (X:Cx) (pins:List (Addr × Obj)) (σ:St) (E:XK) (e:Value) (s':Shared):Prop:=∃ H s,Inv X pins σ H s∧CX X.stack H s E e s'
def PEx (CX:CXT) (X:Cx) (e:Expr) (t:XK→TE):Prop :=
 ∀ (E:XK) (pins:List (Addr × Obj)) (s:Shared) (σ:St) (H:Hp) (Q:VK),Inv X pins σ H s→t E σ H Q→wpAny (model X.prog X.w) X.A (eval e X.env) (EP X pins σ Q) (XP CX X pins σ E) s
abbrev XS (CX:CXT) (X:Cx) (pins:List (Addr × Obj)) (EK:St→XK) (e:Value) (s':Shared):Prop:=∃ σ,XP CX X pins σ (EK σ) e s'
def PSx (CX:CXT) (X:Cx) (st:Stmt) (t:(St→XK)→TS):Prop :=
 ∀ (EK:St→XK) (pins:List (Addr × Obj)) (s:Shared) (σ:St) (H:Hp) (D:Ends),Inv X pins σ H s→t EK D σ H→wpAny (model X.prog X.w) X.A (exec st X.env) (SP X pins D) (XS CX X pins EK) s
def AM (CX:CXT) (X:Cx) (st:List Stmt) (t:(St→XK)→TS):Prop :=
 ∀ (EK:St→XK) (pins:List (Addr × Obj)) (s:Shared) (σ:St) (H:Hp) (D:Ends),Inv X pins σ H s→t EK D σ H→wpAny (model X.prog X.w) X.A (execs st X.env) (SP X pins D) (XS CX X pins EK) s
section
variable {CX:CXT} {X:Cx} {k:Nat} {f C:Addr} {fd:FuncData} {ps:List Str} {sp:Sp} {dvs:List V} {ds:List Value} {x:Str} {p pos:Pos} {e:Expr} {es:List Expr} {te:TE} {t:TA} {st:Stmt} {sts:List Stmt} {ts:TS} {tx ux:(St→XK)→TS} {ex:XK→TE}
theorem oO (F:FnOk X.prog X.w X.K X.mg X.base CX k f fd ps sp) (hr:Room k X.A) (hg:Gl X x) (hm:X.mg x=some (.ref f)) (hk:PySem.W.keepIn X.K (.ref f)=true) (hb:Binds X.K fd ps ds) (hd:Vals dvs ds)
   (ha:PA X.nox (e :: es) t) (hdb:(x == ("__debug__":Str))=false:=by decide) (he:starEach (e :: es) X.env=(false,eval e X.env) :: starEach es X.env:=by rfl) (hpl:(backTo pos (starEach es X.env)).any (·.1)=false:=by rfl) :
   PEx CX X (.Call (.Name x p) (e :: es) [] pos) (fun E=>nW sp dvs E t):=by
 intro E pins s σ H Q I h
 refine wpAny_Call_Name_kw (dH I hg hm ?_ hdb)
 refine PySem.W.callWith_K (h₀:=X.base) I.ok.mod.kin hk (wpAny_mono (ha pos pins s σ H _ (I.wish _) h) (fun us s1 ⟨vs,H1,I1,r,q⟩=>⟨I1.unwish.kIn,?_⟩) fun _ _ z=>False.elim z) he hpl
 have J:=I1.unwish
 have r2:Vals (vs ++ dvs) (us ++ ds):=r.append hd
 have hl:(us ++ ds).length=ps.length:=by rw [← r2.length]; exact F.len _ _ _ _ q
 refine wpAny_call (codeAny_mono (F.run X.A X.stack s1 H1 ⟨us,[]⟩ (us ++ ds) (vs ++ dvs) Q E hr J.env0 (hb s1 us J.kIn hl) r2 q) fun r s' hq=>?_)
 cases r with
 | error e=>exact ⟨H1,s1,J,hq⟩
 | ok fl =>
   cases fl with
   | ret u=>exact J.after hq
   | next=>exact False.elim hq
   | brk=>exact False.elim hq
   | cont=>exact False.elim hq
theorem vq (he:PEx CX X e ex) (hs:swapsWith e none pos.line X.env=pure false:=by rfl):PSx CX X (.Expr e pos) (fun EK D σ H=>ex (EK σ) σ H fun _ H1=>D.nx σ H1):=by
 intro EK pins s σ H D I h
 exact wpAny_Expr_any (wpAny_mono (he (EK σ) pins s σ H _ I h) (fun v s1 ⟨x,H1,I1,r1,q1⟩=>⟨σ,H1,I1,q1⟩) fun e s' z=>⟨σ,z⟩) I.quiet hs
theorem pK (h1:PSx CX X st tx):AM CX X [st] tx:=by
 intro EK pins s σ H D I h
 refine wpAny_execs_cons (thn (h1 EK pins s σ H D I h) fun f s1 q=>?_)
 cases f with
 | next=>exact wpAny_execs_nil q
 | ret v=>exact q
 | brk=>exact q
 | cont=>exact q
end
end L2
set_option Elab.async false
set_option linter.all false
set_option maxRecDepth 100000
namespace L2
open PySem PySem.Spec PyProof.Rows
abbrev Cx.held (X:Cx) (e:Value):Cx:={ X with A:=X.A.mark (some e),calm:=false }
theorem Cx.Ok.held {X:Cx} (ok:X.Ok) (e:Value):(X.held e).Ok :=
 ⟨ok.mod,ok.kind,ok.glob,ok.blt,ok.above,ok.inj,ok.has,ok.cab,(fun z=>nomatch z),ok.frames,ok.stk,ok.exf,ok.bs,ok.bsz,ok.noex,ok.exfs,ok.funs,ok.frf⟩
theorem Cx.Ok.unheld {X:Cx} {e:Value} (ok:(X.held e).Ok) (hd:X.calm=true→X.A.handled=none):X.Ok :=
 ⟨ok.mod,ok.kind,ok.glob,ok.blt,ok.above,ok.inj,ok.has,ok.cab,hd,ok.frames,ok.stk,ok.exf,ok.bs,ok.bsz,ok.noex,ok.exfs,ok.funs,ok.frf⟩
section
variable {X:Cx} {pins:List (Addr × Obj)} {σ:St} {H:Hp} {s:Shared}
theorem Inv.held (I:Inv X pins σ H s) (e:Value):Inv (X.held e) pins σ H s:=⟨I.ok.held e,I.os,I.bare,I.base,I.loc,I.cell,I.free,I.freeC,I.pin,I.hok,I.len⟩
theorem Inv.unheld {e:Value} (I:Inv (X.held e) pins σ H s) (hd:X.calm=true→X.A.handled=none):Inv X pins σ H s:=⟨I.ok.unheld hd,I.os,I.bare,I.base,I.loc,I.cell,I.free,I.freeC,I.pin,I.hok,I.len⟩
theorem Inv.moved {xs:List Addr} {h':Heap} {tk:Nat} (I:Inv X pins σ H s) (k:Kept (frs X.stack) xs s.heap h') (nx:∀ b∈xs,H b=none∧X.s₀.heap.get? b=none∧b≠X.env.locals∧(∀ x c,X.env.cells.lookup x=some c→c≠b)∧∀ p∈X.pn ++ pins,p.1≠b) :
   Inv X pins σ H { s with heap:=h',toks:=tk }:=by
 have old:∀ b o,X.s₀.heap.get? b=some o→b ∉ xs:=fun b o e z=>by rw [(nx b z).2.1] at e; cases e
 have nel:∀ b o,X.s₀.heap.get? b=some o→b≠X.env.locals:=fun b o e z=>absurd (Nat.lt_of_lt_of_le (Heap.lt_size e) I.ok.above) (by rw [z]; exact Nat.lt_irrefl _)
 have out:∀ b,b≠X.env.locals→b ∉ X.fs→b ∉ frs X.stack:=fun b h1 h2 z=>(List.mem_cons.mp (I.stkSub b z)).elim h1 h2
 have any:∀ b o,s.heap.get? b=some o→b ∉ xs→∃ sl,h'.get? b=some { o with slots:=sl }:=fun b o e z=>by
   by_cases f:b∈frs X.stack
   · exact k.slot b o e f z
   · exact ⟨o.slots,k.keep b o e f z⟩
 have cells:∀ x c v,X.env.cells.lookup x=some c→s.heap.IsCell c v→h'.IsCell c v:=fun x c v e ⟨o,ho,hd⟩=>by
   obtain ⟨sl,q⟩:=any c o ho fun z=>(nx c z).2.2.2.1 x c e rfl
   exact ⟨_,q,hd⟩
 refine ⟨I.ok,I.os,I.bare,⟨fun b o e n hf hx=>?_,fun b o e n hf hx=>?_,I.base.free,fun b o e hx=>?_,I.base.tups,I.base.frzs,I.base.tbls⟩,?_,fun x c e=>?_,I.free,I.freeC,fun p hp=>?_,io I.hok k I.stkFree fun b hb=>(nx b hb).1,I.len⟩
 · exact k.keep b o (I.base.keep b o e n hf hx) (out b (nel b o e) hf) (old b o e)
 · obtain ⟨sl,e1⟩:=I.base.slot b o e n hf hx
   obtain ⟨s2,e2⟩:=any b _ e1 (old b o e)
   exact ⟨s2,e2⟩
 · obtain ⟨o1,e1⟩:=I.base.there b o e hx
   exact k.there b o1 e1
 · obtain ⟨m,⟨o,es,ep,ho,r⟩,l⟩:=I.loc
   obtain ⟨sl,e1⟩:=any _ o ho fun z=>(nx _ z).2.2.1 rfl
   refine ⟨m,⟨_,es,ep,e1,r⟩,fun i x v h1 h2 h3=>?_⟩
   obtain ⟨u,r1,l1⟩:=l i x v h1 h2 h3
   refine ⟨u,r1,?_⟩
   rcases l1 with l1 | ⟨k1,c,e,z⟩
   · exact .inl l1
   · exact .inr ⟨k1,c,e,cells x c _ e z⟩
 · obtain ⟨v,z⟩:=I.cell x c e
   exact ⟨v,cells x c v e z⟩
 · obtain ⟨e,n,ne,nf,d⟩:=I.pin p hp
   exact ⟨k.keep p.1 p.2 e (out p.1 ne nf) fun z=>(nx p.1 z).2.2.2.2 p hp rfl,n,ne,nf,d⟩
theorem Inv.young (I:Inv X pins σ H s) {b:Addr} (n:s.heap.get? b=none):X.s₀.heap.get? b=none∨b∈X.ex:=by
 by_cases z:b∈X.ex
 · exact .inr z
 · refine .inl ?_
   cases q:X.s₀.heap.get? b with
   | none=>rfl
   | some o =>
     obtain ⟨o',e⟩:=I.base.there b o q z
     rw [n] at e
     cases e
theorem Inv.apart (I:Inv X pins σ H s) {b:Addr} (n:s.heap.get? b=none):b≠X.env.locals∧(∀ x c,X.env.cells.lookup x=some c→c≠b)∧∀ p∈X.pn ++ pins,p.1≠b:=by
 refine ⟨?_,fun x c e z=>?_,fun p hp z=>?_⟩
 · rintro rfl
   obtain ⟨m,⟨o,es,ep,ho,r⟩,_⟩:=I.loc
   rw [n] at ho
   cases ho
 · obtain ⟨v,o,ho,hd⟩:=I.cell x c e
   rw [z,n] at ho
   cases ho
 · obtain ⟨e,_⟩:=I.pin p hp
   rw [z,n] at e
   cases e
end
section
variable {K:PySem.W.Frag} {C C':Addr} {x:Addr} {ox:Obj} {od:Option Obj} {M:Model} {A:Around} {E:Value→Shared→Prop} {s:Shared} {b:Bool} {Q:Bool→Shared→Prop}
theorem jZ (X:K.In s.heap) (hx:∃ o,s.heap.get? x=some o∧o.cls=.ref C) (c':XCls K C') (m:PySem.W.mroIn K C (.ref C')=some b) (h:Q b s):wpAny M A (excMatches (.ref x) (.ref C')) Q E s:=by
 obtain ⟨o,ho,hc⟩:=hx
 obtain ⟨hh,g,dr,t,os⟩:=s
 have L0:PySem.W.Looks M hh (typeOf (.ref x)) (.ref C):=hc ▸ (PySem.W.Looks.ld ho).andThen .now
 have L1:=PySem.W.looks_mroIn (M:=M) X m
 have L2:=PySem.W.looks_mroIn (M:=M) X c'.mb
 have L3:=PySem.W.looks_typeIn (M:=M) X c'.ty
 have L4:PySem.W.Looks M hh (isSubtype (.type "type") (.type "tuple")) false:=.of_pure tc_notTuple
 obtain ⟨cd,e,_⟩:=PySem.W.any_some c'.hd
 have L5:PySem.W.Looks M hh (isType (.ref C')) true:=by
   unfold PySem.W.clsIn at e
   split at e
   · rename_i ho'
     intro A' Q' E' s' k q
     unfold isType loadHead
     exact wpAny_bind (wpAny_loadPart (k _ _ (X _ _ ho')) (wpAny_pure q))
   · cases e
 unfold excMatches isInstance isExcClass
 cases b
 all_goals
   repeat lk
   exact h
end
end L2
set_option Elab.async false
set_option linter.all false
set_option maxRecDepth 100000
namespace L2
open PySem PySem.Spec PyProof.Rows
def ExO (ea:Addr) (cls:Value) (od:Option Addr):HO:=.ext fun h=>∃ oe vs,h.get? ea=some oe∧oe.cls=cls∧oe.dict=od∧oe.data=.fields vs
structure Loose (X:Cx) (pins:List (Addr × Obj)) (H:Hp) (b:Addr):Prop where
 un:H b=none
 new:X.s₀.heap.get? b=none
 loc:b≠X.env.locals
 cel:∀ x c,X.env.cells.lookup x=some c→c≠b
 pin:∀ p∈X.pn ++ pins,p.1≠b
theorem Loose.all {X:Cx} {pins:List (Addr × Obj)} {H:Hp} {b:Addr} (l:Loose X pins H b):H b=none∧X.s₀.heap.get? b=none∧b≠X.env.locals∧(∀ x c,X.env.cells.lookup x=some c→c≠b)∧∀ p∈X.pn ++ pins,p.1≠b:=⟨l.un,l.new,l.loc,l.cel,l.pin⟩
section
variable {X:Cx} {pins:List (Addr × Obj)} {σ:St} {H:Hp} {s:Shared}
theorem Inv.trackX {ea:Addr} {cls hd:Value} {od:Option Addr} (I:Inv X pins σ H s) (l:Loose X pins H ea) (e:dS s.heap ea cls od hd):Inv X pins σ (upd H ea (ExO ea cls od)) s:=by
 obtain ⟨oe,vs,h1,h2,h3,h4,h5⟩:=e
 have ne:∀ b,b≠ea→upd H ea (ExO ea cls od) b=H b:=fun b z=>ap z
 have nt:∀ b u,H b=some u→upd H ea (ExO ea cls od) b=some u:=fun b u z=>by rw [ne b (aY z l.un)]; exact z
 refine ⟨I.ok,I.os,I.bare,⟨I.base.keep,I.base.slot,fun b o q n x=>?_,I.base.there,fun b xs q=>nt _ _ (I.base.tups b xs q),fun b o u q=>nt _ _ (I.base.frzs b o u q),fun b ps q=>?_⟩,I.loc,I.cell,?_,fun x c q=>?_,fun p hp=>?_,?_,I.len⟩
 · rw [ne b (by rintro rfl; rw [l.new] at q; cases q)]
   exact I.base.free b o q n x
 · obtain ⟨more,z⟩:=I.base.tbls b ps q
   exact ⟨more,nt _ _ z⟩
 · rw [ne _ (Ne.symm l.loc)]
   exact I.free
 · rw [ne _ (l.cel x c q)]
   exact I.freeC x c q
 · obtain ⟨z1,z2,z3,z4,z5⟩:=I.pin p hp
   exact ⟨z1,by rw [ne _ (l.pin p hp)]; exact z2,z3,z4,z5⟩
 · intro b u q
   by_cases z:b=ea
   · subst z
     rw [ah] at q
     cases q
     refine ⟨⟨oe,vs,h1,h2,h3,h4⟩,⟨oe,h1⟩,?_⟩
     rintro g1 g2 ⟨o,v,a1,a2⟩ kk
     exact ⟨o,v,kk _ a1,a2⟩
   · rw [ne b z] at q
     exact (I.hok b u q).stay (fun _ _ _ r=>r) (fun c r=>nt _ _ r) fun c xs r=>nt _ _ r
theorem gw {M:Model} {A:Around} {E:Value→Shared→Prop} {n:Str} {i:Nat} {pos:Pos} {Q:Unit→Shared→Prop} (I:Inv X pins σ H s) (hN:X.N.Nodup) (hi:X.N[i]?=some n) (hl:X.env.scope.names.lookup n=some .local)
   (h:∀ s',Inv X pins (σ.set i none) H s'→Q () s'):wpAny M A (do bindName X.env n .none; unbindBehindTheSuite X.env n pos) Q E s:=by
 have hcls:(X.env.scope.kind == .class || (X.env.scope.kind == .module && X.env.locals != X.env.globals))=false:=by rw [I.ok.kind]; rfl
 have hiσ:i < σ.length:=by rw [I.len]; exact (List.getElem?_eq_some_iff.mp hi).1
 refine wpAny_bind (wpAny_bindName (gi (v:=V.non) I hN hi (.inl hl) rfl (fun s1 I1=>?_) (.inr hl)))
 obtain ⟨m,hn,l⟩:=id I1.loc
 have hv:m n=some Value.none:=by
   obtain ⟨u,r,q⟩:=l i n .non hi (by rw [List.getElem?_set_self hiσ]) (.inl hl)
   cases (show u=Value.none from r)
   rcases q with ⟨_,q⟩ | ⟨q,_⟩
   · exact q
   · rcases q with q | q <;> (have z:X.env.scope.names.lookup n=_:=q; rw [hl] at z; cases z)
 unfold unbindBehindTheSuite
 refine wpAny_onRaise (wpAny_unbindName_local hl hn hv hcls fun h' u hn' hs=>h _ ?_)
 have cne:=I1.cne
 have far:∀ b o,X.s₀.heap.get? b=some o→b≠X.env.locals:=fun b o e=>Nat.ne_of_lt (Nat.lt_of_lt_of_le (Heap.lt_size e) I1.ok.above)
 have at_:∀ b,b≠X.env.locals→h'.get? b=s1.heap.get? b:=fun b z=>hs.2 b z
 refine ⟨I1.ok,I1.os,I1.bare,⟨fun b o e n hb hx=>?_,fun b o e n hb hx=>?_,I1.base.free,fun b o e hx=>?_,I1.base.tups,I1.base.frzs,I1.base.tbls⟩,⟨_,hn',fun j y v e1 e2 e3=>?_⟩,fun y c e=>?_,I1.free,I1.freeC,fun p hp=>?_,fun b ob e=>?_,by simpa using I.len⟩
 · exact (at_ b (far b o e)).trans (I1.base.keep b o e n hb hx)
 · obtain ⟨sl,q⟩:=I1.base.slot b o e n hb hx
   exact ⟨sl,(at_ b (far b o e)).trans q⟩
 · obtain ⟨o',q⟩:=I1.base.there b o e hx
   exact ⟨o',(at_ b (far b o e)).trans q⟩
 · by_cases hj:j=i
   · subst hj
     rw [List.getElem?_set_self hiσ] at e2
     cases e2
   · have hy:y≠n:=fun z=>hj (ke hN e1 (z ▸ hi))
     rw [List.getElem?_set_ne (Ne.symm hj)] at e2
     obtain ⟨u',r',q⟩:=l j y v e1 (by rw [List.getElem?_set_ne (Ne.symm hj)]; exact e2) e3
     refine ⟨u',r',?_⟩
     rcases q with ⟨k,z⟩ | ⟨k,c,z1,z2⟩
     · exact .inl ⟨k,by simp [hy,z]⟩
     · exact .inr ⟨k,c,z1,z2.sameBut hs (cne y c z1)⟩
 · obtain ⟨v,z⟩:=I1.cell y c e
   exact ⟨v,z.sameBut hs (cne y c e)⟩
 · obtain ⟨z1,z2,z3,z4,z5⟩:=I1.pin p hp
   exact ⟨(at_ p.1 z3).trans z1,z2,z3,z4,z5⟩
 · refine (I1.hok b ob e).stay (fun c w hc q=>(at_ c ?_).trans q) (fun _ q=>q) fun _ _ q=>q
   rintro rfl
   rcases hc with rfl | hc
   · rw [I1.free] at e; cases e
   · rw [I1.free] at hc; cases hc
end
abbrev TH:=Ends→St→Value→Option Addr→Hp→Prop
def PHs (X:Cx) (hs:List ExceptHandler) (th:TH):Prop:=∀ (pins:List (Addr × Obj)) (s:Shared) (σ:St) (H:Hp) (D:Ends) (ea T:Addr) (cls:Value) (od:Option Addr),Inv X pins σ H s→Err s.heap ea T cls od .none→Loose X pins H ea→Loose X pins H T →
 th D σ cls od H→wpAny (model X.prog X.w) X.A (handleBy (.ref ea) X.env hs) (SP X pins D) X.xe s
def Ends.less (D:Ends) (i:Nat):Ends:={ nx:=fun σ H=>D.nx (σ.set i none) H,rt:=D.rt,bk:=fun σ H=>D.bk (σ.set i none) H,ct:=fun σ H=>D.ct (σ.set i none) H }
def yA (K:PySem.W.Frag) (C':Addr) (i:Nat) (ts:TS) (tr:TH):TH:=fun D σ cls od H=>∃ C b,cls=.ref C∧PySem.W.mroIn K C (.ref C')=some b ∧
 if b=true then ∀ ea,H ea=none→ts (D.less i) (σ.set i (some (.ref ea))) (upd H ea (ExO ea cls od)) else tr D σ cls od H
def tNoHand:TH:=fun _ _ _ _ _=>False
section
variable {X:Cx} {x n:Str} {np pos:Pos} {i:Nat} {C':Addr} {b0:Stmt} {suite:List Stmt} {rest:List ExceptHandler} {ts:TS} {tr:TH}
theorem tP:PHs X [] tNoHand:=fun _ _ _ _ _ _ _ _ _ _ _ _ _ h=>h.elim
theorem A6 (c':XCls X.K C') (hg:Gl X x) (hm:X.mg x=some (.ref C')) (hN:X.N.Nodup) (hi:X.N[i]?=some n) (hl:X.env.scope.names.lookup n=some .local) (hb:∀ e,PSs (X.held e).nox (b0 :: suite) ts) (hr:PHs X rest tr) (hdb:(x == ("__debug__":Str))=false:=by decide) :
   PHs X (.ExceptHandler (some (.Name x np)) (some n) (b0 :: suite) pos :: rest) (yA X.K C' i ts tr):=by
 intro pins s σ H D ea T cls od I er le lt h
 obtain ⟨C,b,rfl,m,q⟩:=h
 refine wpAny_handleBy_cons (codeAny_handlers_test (dH (X:=X.held (.ref ea)) (I.held _) hg hm ?_ hdb)) (by intro z; cases z)
 obtain ⟨oe,vs,h1,h2,h3,h4,h5⟩:=id er.e
 refine jZ I.kIn ⟨oe,h1,h2⟩ c' m ?_
 cases b with
 | false=>exact hr pins s σ H D ea T _ od I er le lt (by simpa using q)
 | true =>
   rw [if_pos rfl] at q
   refine codeAny_handlers_suite_as (gP (fs:=frs X.stack) er fun h' er' k=>?_)
   have I1:Inv X pins σ H { s with heap:=h' }:=I.moved (tk:=s.toks) k fun b hb=>by rw [List.mem_singleton.mp hb]; exact lt.all
   have I2:=(I1.trackX le er'.e).held (.ref ea)
   refine gi (X:=X.held (.ref ea)) (v:=V.ref ea) I2 hN hi (.inl hl) rfl (fun s2 I3=>?_) (.inr hl)
   refine wpAny_mono (hb (.ref ea) pins s2 _ _ _ (I3.wish _) (q ea le.un)) (fun f s3 z=>?_) fun _ _ z=>False.elim z
   have back:∀ {σ':St} {H':Hp},Inv (X.held (.ref ea)).nox pins σ' H' s3→Inv X pins σ' H' s3:=fun J=>J.unwish.unheld I.ok.hd
   dsimp only
   cases f with
   | next =>
     obtain ⟨σ',H',J,z⟩:=z
     exact gw (back J) hN hi hl fun s4 J4=>⟨_,H',J4,z⟩
   | brk =>
     obtain ⟨σ',H',J,z⟩:=z
     exact gw (back J) hN hi hl fun s4 J4=>⟨_,H',J4,z⟩
   | cont =>
     obtain ⟨σ',H',J,z⟩:=z
     exact gw (back J) hN hi hl fun s4 J4=>⟨_,H',J4,z⟩
   | ret u =>
     obtain ⟨v,σ',H',J,rv,z⟩:=z
     exact gw (back J) hN hi hl fun s4 J4=>⟨v,_,H',J4,rv,z⟩
def AL (tb:(St→XK)→TS) (th:TH):TS:=fun D σ H=>tb (fun σ' cls od H'=>th D σ' cls od H') D σ H
theorem sT {body:List Stmt} {h0:ExceptHandler} {hs:List ExceptHandler} {tb:(St→XK)→TS} {th:TH} (hx:X.ex=[]) (hst:X.stack=X.env :: X.outer) (hf:X.env.frame=some X.env.locals) (hb:AM (CXe X.prog X.w) X body tb) (hh:PHs X (h0 :: hs) th) :
   PS X (.Try body (h0 :: hs) [] [] pos) (AL tb th):=by
 intro pins s σ H D I h
 refine wpAny_Try_except (wpAny_mono (hb _ pins s σ H D I h) (fun f s1 q=>?_) fun e s' z=>?_)
 · cases f with
   | next=>exact wpAny_execs_nil q
   | ret v=>exact q
   | brk=>exact q
   | cont=>exact q
 · obtain ⟨σ1,H1,s1,I1,ea,T,cls,od,H',rfl,os,bare,un,hok,n1,n2,f1,f2,er,q⟩:=z
   have J:=I1.call' (ch:=[]) os un hok bare (by simp)
   have fresh:∀ b,s1.heap.get? b=none→H' b=none→Loose X pins H' b:=fun b z u=>by
     obtain ⟨a1,a2,a3⟩:=I1.apart z
     refine ⟨u,?_,a1,a2,a3⟩
     rcases I1.young z with y | y
     · exact y
     · rw [hx] at y; cases y
   have le:=fresh ea f1 n1
   have lt:=fresh T f2 n2
   have fr:=J.ok.frames
   have st:=J.stack
   rw [hst] at fr st
   refine qo fr st hf er fun h2 T2 er2 k2 nT2=>?_
   rw [← hst] at k2
   have J2:Inv X pins σ1 H' { s' with heap:=h2 }:=J.moved (tk:=s'.toks) k2 fun b hb=>by
     simp only [List.mem_cons,List.not_mem_nil,or_false] at hb
     rcases hb with rfl | rfl
     · exact le.all
     · exact lt.all
   have lt2:Loose X pins H' T2:=by
     obtain ⟨a1,a2,a3⟩:=J.apart nT2
     refine ⟨ji hok nT2,?_,a1,a2,a3⟩
     rcases J.young nT2 with y | y
     · exact y
     · rw [hx] at y; cases y
   refine gP (fs:=frs X.stack) (s:={ s' with heap:=h2 }) er2 fun h3 er3 k3=>?_
   have J3:Inv X pins σ1 H' { s' with heap:=h3 }:=J2.moved (tk:=s'.toks) k3 fun b hb=>by rw [List.mem_singleton.mp hb]; exact lt2.all
   exact hh pins _ σ1 H' D ea T2 cls od J3 er3 le lt2 q
end
end L2
set_option Elab.async false
set_option linter.all false
set_option maxRecDepth 100000
namespace L2
open PySem PySem.Spec PyProof.Rows
section
variable {P:Program} {w:World} {K:PySem.W.Frag} {mg:Str→Option Value} {base:Heap}
end
section
variable {X:Cx} {k:Nat} {f:Addr} {fd:FuncData} {ps:List Str} {sp:Sp} {x:Str} {p pos:Pos} {e:Expr} {es:List Expr} {t:TA}
end
def rM (K:PySem.W.Frag) (C:Addr):V→Bool→Prop
 | .ref C',b=>XCls K C'∧PySem.W.mroIn K C (.ref C')=some b
 | .ty T,b=>PySem.W.kitMeta T=true∧PySem.W.mroIn K C (.type T)=some b
 | _,_=>False
def lw (H:Hp):Option Addr→Prop
 | none=>True
 | some d=>∃ fs,H d=some (.xd fs)
def rH (K:PySem.W.Frag):List V→Hp→VK→Prop:=fun xs H Q=>∃ ea C od cv b,xs=[.ref ea,cv]∧H ea=some (ExO ea (.ref C) od)∧lw H od∧XCls K C∧rM K C cv b∧Q (.bl b) H
theorem mD {K:PySem.W.Frag} {C:Addr} {cv:V} {u:Value} {b:Bool} (c:XCls K C) (r:RelV cv u) (h:rM K C cv b):PySem.W.kitOne K (.ref C) u=some b:=by
 unfold PySem.W.kitOne
 cases cv with
 | ref C' =>
   cases (show u=Value.ref C' from r)
   obtain ⟨c',m⟩:=h
   by_cases z:C=C'
   · subst z
     rw [c.sf] at m
     cases m
     simp
   · have:(Value.ref C == Value.ref C')=false:=by simpa using z
     rw [this]
     simp only [Bool.false_eq_true,if_false]
     unfold PySem.W.kitCls
     have q:((PySem.W.clsIn K C').isSome && PySem.W.typeIn K (.ref C') == some (.type "type"))=true:=by
       obtain ⟨cd,e,_⟩:=PySem.W.any_some c'.hd
       rw [e,c'.ty]
       simp
     simp only [q,if_true]
     exact m
 | ty T =>
   cases (show u=Value.type T from r)
   obtain ⟨c',m⟩:=h
   have:(Value.ref C == Value.type T)=false:=by simp
   rw [this]
   simp only [Bool.false_eq_true,if_false]
   unfold PySem.W.kitCls
   simp only [c',if_true]
   exact m
 | non=>exact h.elim
 | bl=>exact h.elim
 | int=>exact h.elim
 | str=>exact h.elim
 | byt=>exact h.elim
 | flt=>exact h.elim
section
variable {X:Cx}
theorem pM {pins:List (Addr × Obj)} {σ:St} {H:Hp} {s:Shared} {ea C:Addr} {od:Option Addr} (I:Inv X pins σ H s) (h:H ea=some (ExO ea (.ref C) od)) (d:lw H od):∃ ox oo,PySem.W.InstAt s.heap ea ox C oo:=by
 obtain ⟨⟨oe,vs,h1,h2,h3,h4⟩,_⟩:=(show ObjOk X.prog X.w H s.heap ea (ExO ea (.ref C) od) from I.hok ea _ h)
 have nc:PySem.W.notCls oe=true:=by unfold PySem.W.notCls; rw [h4]
 cases od with
 | none=>exact ⟨oe,none,h1,h2,nc,by rw [h3]; trivial⟩
 | some dx =>
   obtain ⟨fs,hd⟩:=d
   obtain ⟨mA,⟨o,es,ep,e,_⟩,_⟩:=(show ObjOk X.prog X.w H s.heap dx (.xd fs) from I.hok dx _ hd)
   exact ⟨oe,some o,h1,h2,nc,by rw [h3]; exact e⟩
theorem uR:dz X (.builtin "isinstance") (rH X.K):=by
 intro pins s σ H xs us Q I r h
 obtain ⟨ea,C,od,cv,b,rfl,he,hd,c,hk,q⟩:=h
 obtain ⟨u,cu,rfl,ru,rc⟩:=om r
 cases (show u=Value.ref ea from ru)
 obtain ⟨ox,oo,ia⟩:=pM I he hd
 exact PySem.W.kia_one (oK (x:=ea) (ox:=ox) (od:=oo) c) I.kIn ia (mD c rc hk) (fun z=>nomatch z) fun tk=>⟨.bl b,H,I.tok tk,rfl,q⟩
end
def gM (cells:List (Str × Addr)):List (Str × NameKind)→List (Str × Addr)→List (Str × Addr)
 | [],acc=>acc
 | (n,k) :: r,acc=>if k == .free then gM cells r ((n,(cells.lookup n).getD 0) :: acc) else gM cells r acc
theorem rL {scope:Scope} {env:Env} (h:∀ y∈scope.names,y.2=.free→(env.cells.lookup y.1).isSome=true):closureFor scope env=pure (gM env.cells scope.names []):=by
 have key:∀ (l:List (Str × NameKind)) (acc:List (Str × Addr)),(∀ y∈l,y.2=.free→(env.cells.lookup y.1).isSome=true) →
     (forIn l acc fun (y:Str × NameKind) (c:List (Str × Addr))=>(if y.2 == NameKind.free then do let a ← cellOf env y.1; pure (ForInStep.yield ((y.1,a) :: c)) else pure (ForInStep.yield c):Sem (ForInStep (List (Str × Addr)))))=(pure (gM env.cells l acc):Sem (List (Str × Addr))):=by
   intro l
   induction l with
   | nil=>intro acc _; rfl
   | cons y l ih =>
     obtain ⟨n,k⟩:=y
     intro acc hh
     have h1:=hh (n,k) List.mem_cons_self
     have h2:∀ y∈l,y.2=.free→(env.cells.lookup y.1).isSome=true:=fun y hy=>hh y (List.mem_cons_of_mem _ hy)
     rw [List.forIn_cons]
     unfold gM
     cases q:k == NameKind.free with
     | false =>
       simp only [Bool.false_eq_true,if_false,pure_bind]
       exact ih acc h2
     | true =>
       obtain ⟨c,hc⟩:=Option.isSome_iff_exists.mp (h1 (by simpa using q))
       dsimp only at hc
       simp only [if_true,cellOf,hc,pure_bind,Option.getD_some]
       exact ih _ h2
 have:=key scope.names [] h
 unfold closureFor
 simp only [bind_pure]
 exact this
theorem km {cells:List (Str × Addr)} {x:Str} {c:Addr}:∀ {l:List (Str × NameKind)} {acc:List (Str × Addr)},(∀ y∈l,y.2=.free→(cells.lookup y.1).isSome=true)→(∀ x c,acc.lookup x=some c→cells.lookup x=some c)→(gM cells l acc).lookup x=some c→cells.lookup x=some c
 | [],acc,_,h2,h3=>h2 x c h3
 | (n,k) :: r,acc,h1,h2,h3=>by
   have h1':∀ y∈r,y.2=.free→(cells.lookup y.1).isSome=true:=fun y hy=>h1 y (List.mem_cons_of_mem _ hy)
   unfold gM at h3
   cases q:k == NameKind.free with
   | false =>
     rw [q] at h3
     exact km h1' h2 (by simpa using h3)
   | true =>
     rw [q] at h3
     simp only [if_true] at h3
     obtain ⟨a,ha⟩:=Option.isSome_iff_exists.mp (h1 (n,k) List.mem_cons_self (by simpa using q))
     dsimp only at ha
     rw [ha] at h3
     refine km h1' (fun y d hy=>?_) h3
     rw [List.lookup_cons] at hy
     cases z:y == n with
     | true =>
       rw [z] at hy
       cases hy
       rw [eq_of_beq z]
       exact ha
     | false =>
       rw [z] at hy
       exact h2 y d hy
theorem kP {cells:List (Str × Addr)} {x:Str}:∀ {l:List (Str × NameKind)} {acc:List (Str × Addr)},((∃ c,acc.lookup x=some c)∨(x,NameKind.free)∈l)→∃ c,(gM cells l acc).lookup x=some c
 | [],acc,h=>by
   rcases h with h | h
   · exact h
   · cases h
 | (n,k) :: r,acc,h=>by
   unfold gM
   cases q:k == NameKind.free with
   | false =>
     simp only [Bool.false_eq_true,if_false]
     refine kP ?_
     rcases h with h | h
     · exact .inl h
     · rcases List.mem_cons.mp h with z | z
       · cases z
         simp at q
       · exact .inr z
   | true =>
     simp only [if_true]
     refine kP ?_
     by_cases z:x=n
     · subst z
       exact .inl ⟨(cells.lookup x).getD 0,by rw [List.lookup_cons]; simp⟩
     · rcases h with ⟨c,h⟩ | h
       · refine .inl ⟨c,?_⟩
         rw [List.lookup_cons]
         have:(x == n)=false:=by simpa using z
         rw [this]
         exact h
       · rcases List.mem_cons.mp h with y | y
         · cases y
           exact absurd rfl z
         · exact .inr y
theorem eX {env:Env} {x:Str} {k:NameKind}:∀ {l:List (Str × NameKind)},l.lookup x=some k →
   (l.map fun (n,k)=>if (k == NameKind.free && env.scope.kind == .function && env.kindOf n == some .cell) then (n,NameKind.cell) else (n,k)).lookup x=some (if (k == NameKind.free && env.scope.kind == .function && env.kindOf x == some .cell) then NameKind.cell else k)
 | [],h=>by simp at h
 | (n,j) :: r,h=>by
   have ih:=@eX env x k r
   rw [List.map_cons]
   rw [List.lookup_cons] at h
   cases z:x == n with
   | true =>
     rw [z] at h
     cases h
     have e:=eq_of_beq z
     subst e
     by_cases q:(k == NameKind.free && env.scope.kind == .function && env.kindOf x == some .cell)=true
     · simp only [q,if_true,List.lookup_cons,z]
     · simp only [q,if_false,List.lookup_cons,z,Bool.false_eq_true]
   | false =>
     rw [z] at h
     dsimp only
     by_cases q:(j == NameKind.free && env.scope.kind == .function && env.kindOf n == some .cell)=true
     · rw [if_pos q,List.lookup_cons,z]
       exact ih h
     · rw [if_neg q,List.lookup_cons,z]
       exact ih h
theorem jI {X:Cx} {Nc:List Str} {scope:Scope} (own:Nat) (js:List Nat) (hc:∀ y∈scope.names,y.2≠.cell) (hk:scope.kind=.function) (hn:∀ y∈scope.names,y.2=.local→scope.names.lookup y.1=some .local) (hl:Nc.length=own + js.length)
   (hf:∀ y∈scope.names,y.2=.free→X.env.scope.names.lookup y.1=some .cell) (hX:X.env.scope.kind=.function) (hcell:∀ x,X.env.scope.names.lookup x=some .cell→∃ c,X.env.cells.lookup x=some c)
   (hU:∀ i,i < js.length→∃ x j,Nc[own + i]?=some x∧js[i]?=some j∧X.N[j]?=some x∧scope.names.lookup x=some .free):CompTxt X Nc own js scope (gM X.env.cells scope.names []):=by
 have hs:∀ y∈scope.names,y.2=.free→(X.env.cells.lookup y.1).isSome=true:=fun y hy e=>by
   obtain ⟨c,q⟩:=hcell _ (hf y hy e)
   rw [q]
   rfl
 have free_cell:∀ x,scope.names.lookup x=some .free→X.env.scope.names.lookup x=some .cell:=fun x h=>hf (x,.free) (PySem.mem_of_lookup h) rfl
 refine ⟨rL hs,hk,hc,hn,fun x c h=>km hs (fun x c z=>by simp at z) h,fun x h=>?_,hl,fun i x h=>?_⟩
 · cases q:scope.names.lookup x with
   | none =>
     exfalso
     have:(relabel scope X.env).names.lookup x=none:=by
       unfold relabel
       dsimp only
       revert q
       generalize scope.names=l
       induction l with
       | nil=>intro _; rfl
       | cons y l ih =>
         obtain ⟨n,k⟩:=y
         intro q
         rw [List.lookup_cons] at q
         cases z:x == n with
         | true=>rw [z] at q; cases q
         | false =>
           rw [z] at q
           rw [List.map_cons]
           dsimp only
           by_cases w:(k == NameKind.free && X.env.scope.kind == .function && X.env.kindOf n == some .cell)=true
           · rw [if_pos w,List.lookup_cons,z]
             exact ih q
           · rw [if_neg w,List.lookup_cons,z]
             exact ih q
     rw [this] at h
     rcases h with h | h <;> cases h
   | some k =>
     have r:(relabel scope X.env).names.lookup x=some _:=eX (env:=X.env) q
     cases k with
     | free=>exact kP (.inr (PySem.mem_of_lookup q))
     | cell=>exact absurd rfl (hc _ (PySem.mem_of_lookup q))
     | _ =>
       rw [r] at h
       simp at h
 · have hi:i < js.length:=by
     have:=(List.getElem?_eq_some_iff.mp h).1
     omega
   obtain ⟨y,j,e1,e2,e3,e4⟩:=hU i hi
   rw [h] at e1
   cases e1
   have fc:=free_cell x e4
   refine ⟨j,e2,e3,fc,?_⟩
   have r:(relabel scope X.env).names.lookup x=some _:=eX (env:=X.env) e4
   rw [r]
   have:X.env.kindOf x=some .cell:=fc
   rw [this,hX]
   rfl
end L2
set_option Elab.async false
set_option linter.all false
set_option maxRecDepth 100000
namespace L2
open PySem PySem.Spec PyProof.Rows
theorem qG:∀ {ns:List Int} {us:List Value},Vals (ns.map V.int) us→IntsAre us ns
 | [],_,h=>by cases h; exact .nil
 | n :: ns,_,h=>by
   cases h with
   | cons r t =>
     obtain ⟨k,rfl⟩:=(show ∃ t,_=Value.int n t from r)
     exact .cons n k (qG t)
theorem qJ:∀ {ns:List Int} {us:List Value},IntsAre us ns→Vals (ns.map V.int) us
 | _,_,.nil=>.nil
 | _,_,.cons n t r=>.cons ⟨t,rfl⟩ (qJ r)
section
variable {X:Cx}
theorem qg:dz X (.builtin "sorted") (fun xs H Q=>∃ (p:Addr) (ns:List Int),xs=[.ref p]∧SqL X.K H p (ns.map V.int)∧ns.length < 64∧∀ (l:Addr) (zs:List Int),H l=none→zs.Perm ns→zs.Pairwise (·≤·)→Q (.ref l) (upd H l (.lst (zs.map V.int)))):=by
 intro pins s σ H xs us Q I r h
 obtain ⟨p,ns,rfl,hp,h64,q⟩:=h
 obtain ⟨u,rfl,ru⟩:=jM r
 cases ru
 obtain ⟨its,rv,pl,hz⟩:=I.list hp
 have hi:=qG rv
 have e1:=IntsAre.length hi
 refine sorted_ints pl.isList hi (by omega) fun out zs a1 a2 a3=>?_
 obtain ⟨e,he⟩:=sortedAll_at s.heap its out
 have hn:H (s.heap.objs.size + 1)=none:=I.hok.fresh (Nat.le_succ _)
 have ln:zs.length=ns.length:=a2.length_eq
 refine ⟨.ref (s.heap.objs.size + 1),_,I.laid (a:=s.heap.objs.size + 1) (o:=.lst (zs.map V.int)) (t':=s.toks) (fun b o e=>sortedAll_old e) (Nat.le_succ _) ⟨?_,out.toList,e,qJ a1,?_⟩,rfl,q _ zs hn a2 a3⟩
 · rw [List.length_map,ln]
   exact aD (by omega)
 · exact he
end
theorem zj {K:PySem.W.Frag} {C T:Addr} {c0:Value} {dd:Option Addr} {cd:ClassData} {sl:Array (Option Value)} (h:K.lookup C=some ⟨c0,dd,.cls cd,sl⟩) (m:cd.mro=.ref C :: .ref T :: bmV) (C':Addr):PySem.W.mroIn K C (.ref C')=some (decide (C'=C) || decide (C'=T)):=by
 unfold PySem.W.mroIn PySem.W.clsIn
 rw [h]
 simp only [Option.bind_some,m,List.isEmpty_cons,Bool.false_eq_true,if_false]
 congr 1
 by_cases h1:C'=C
 · subst h1; simp
 · by_cases h2:C'=T
   · subst h2; simp
   · have a:(Value.ref C' == Value.ref C)=false:=by simpa using h1
     have b:(Value.ref C' == Value.ref T)=false:=by simpa using h2
     simp [List.contains_cons,a,b,h1,h2]
structure XErr (K:PySem.W.Frag) (T C:Addr):Prop where
 x:XCls K C
 mr:∀ C',PySem.W.mroIn K C (.ref C')=some (decide (C'=C) || decide (C'=T))
 mv:PySem.W.mroIn K C (.type "ValueError")=some true
theorem lS {K:PySem.W.Frag} {C:Addr} {c0:Value} {dd:Option Addr} {cd:ClassData} {sl:Array (Option Value)} {r:List Value} (h:K.lookup C=some ⟨c0,dd,.cls cd,sl⟩) (m:cd.mro=.ref C :: r) {v:Value} (hv:(Value.ref C :: r).contains v=true):PySem.W.mroIn K C v=some true:=by
 unfold PySem.W.mroIn PySem.W.clsIn
 rw [h]
 simp only [Option.bind_some,m,List.isEmpty_cons,Bool.false_eq_true,if_false,hv]
section
variable {K:PySem.W.Frag} {T C:Addr} {c0:Value} {dd:Option Addr} {cd:ClassData} {sl:Array (Option Value)}
theorem qE {r:List Value} (h1:PySem.W.typeIn K (.ref C)=some (.type "type")) (h2:PySem.W.findIn K (.ref C) "__getattribute__"=some (some (.builtin "BaseException.__getattribute__"))) (h3:PySem.W.findIn K (.ref C) "__getattr__"=some none)
   (h4:PySem.W.findIn K (.ref C) "__class__"=some (some (.builtin "object.__class__"))) (h5:PySem.W.specialIn K (.builtin "object.__class__") "__get__"=some (some (.builtin "getset_descriptor.__get__"))) (h6:PySem.W.takesIn K (.builtin "object.__class__")=some true)
   (h7:PySem.W.hasDictIn K C=true) (h:K.lookup C=some ⟨c0,dd,.cls cd,sl⟩) (m:cd.mro=.ref C :: r) (a:r.contains (.type "object")=true) (b:r.contains (.type "BaseException")=true):XCls K C :=
 ⟨h1,h2,h3,h4,h5,h6,lS h m (by rw [List.contains_cons,a,Bool.or_true]),lS h m (by rw [List.contains_cons,b,Bool.or_true]),h7,lS h m (by simp)⟩
structure XTop (K:PySem.W.Frag) (T:Addr):Prop where
 x:XCls K T
theorem yO (h1:PySem.W.typeIn K (.ref C)=some (.type "type")) (h2:PySem.W.findIn K (.ref C) "__getattribute__"=some (some (.builtin "BaseException.__getattribute__"))) (h3:PySem.W.findIn K (.ref C) "__getattr__"=some none)
   (h4:PySem.W.findIn K (.ref C) "__class__"=some (some (.builtin "object.__class__"))) (h5:PySem.W.specialIn K (.builtin "object.__class__") "__get__"=some (some (.builtin "getset_descriptor.__get__"))) (h6:PySem.W.takesIn K (.builtin "object.__class__")=some true)
   (h7:PySem.W.hasDictIn K C=true) (h:K.lookup C=some ⟨c0,dd,.cls cd,sl⟩) (m:cd.mro=.ref C :: bmV):XTop K C:=⟨qE h1 h2 h3 h4 h5 h6 h7 h m (by decide +kernel) (by decide +kernel)⟩
theorem f7 (h1:PySem.W.typeIn K (.ref C)=some (.type "type")) (h2:PySem.W.findIn K (.ref C) "__getattribute__"=some (some (.builtin "BaseException.__getattribute__"))) (h3:PySem.W.findIn K (.ref C) "__getattr__"=some none)
   (h4:PySem.W.findIn K (.ref C) "__class__"=some (some (.builtin "object.__class__"))) (h5:PySem.W.specialIn K (.builtin "object.__class__") "__get__"=some (some (.builtin "getset_descriptor.__get__"))) (h6:PySem.W.takesIn K (.builtin "object.__class__")=some true)
   (h7:PySem.W.hasDictIn K C=true) (h:K.lookup C=some ⟨c0,dd,.cls cd,sl⟩) (m:cd.mro=.ref C :: .ref T :: bmV):XErr K T C:=by
 have a:(Value.ref T :: bmV).contains (.type "object")=true:=by rw [List.contains_cons]; simp [bmV]
 have b:(Value.ref T :: bmV).contains (.type "BaseException")=true:=by rw [List.contains_cons]; simp [bmV]
 have c:(Value.ref T :: bmV).contains (.type "ValueError")=true:=by rw [List.contains_cons]; simp [bmV]
 exact ⟨qE h1 h2 h3 h4 h5 h6 h7 h m a b,zj h m,lS h m (by rw [List.contains_cons,c,Bool.or_true])⟩
end
section
variable {P:Program} {w:World} {K:PySem.W.Frag} {mg:Str→Option Value} {base:Heap}
theorem Fun.okX {x qual:Str} {st:Stmt} {f:Addr} {fd:FuncData} {N ps:List Str} {k:Nat} {sp:Sp} (F:Fun K x qual st f fd) (S:FnScope N ps (aa st)) (len:∀ vs H Q E,sp vs H Q E→vs.length=ps.length)
   (hbody:∀ (cdv:Value) (A:Around) (outer:List Env) (s:Shared) (H:Hp) (vs:List V) (Q:VK) (E:XK),Room k (A.deeper (envOfC qual (aa st) s.heap.objs.size f cdv))→sp vs H Q E →
     ∃ t,PSs (eT (CXe P w) P w K mg base N qual (aa st) f cdv A outer s H E) (az st) t∧t { nx:=fun _ H'=>Q .non H',rt:=Q } (start N vs) H):FnOk P w K mg base (CXe P w) (k + 1) f fd ps sp:=by
 obtain ⟨oc,od,kV,doc,pm,an,cdv,ct,osl,rfl,lk,hcd⟩:=F.ex
 exact yi lk hcd S len fun A outer s H vs Q E hr hsp=>hbody cdv A outer s H vs Q E hr hsp
end
theorem nj {C:Addr} {E:XK} {t:TA} {D:Ends} {σ:St} {H:Hp}:sO C E t D σ H=t σ H fun vs H1=>vs.length≤sizeLine∧E (.ref C) none H1:=rfl
theorem qm {tb:(St→XK)→TS} {th:TH} {D:Ends} {σ:St} {H:Hp}:AL tb th D σ H=tb (fun σ' cls od H'=>th D σ' cls od H') D σ H:=rfl
theorem oV {K:PySem.W.Frag} {C':Addr} {i:Nat} {ts:TS} {tr:TH} {D:Ends} {σ:St} {cls:Value} {od:Option Addr} {H:Hp}:yA K C' i ts tr D σ cls od H=∃ C b,cls=.ref C∧PySem.W.mroIn K C (.ref C')=some b ∧
 if b=true then ∀ ea,H ea=none→ts (D.less i) (σ.set i (some (.ref ea))) (upd H ea (ExO ea cls od)) else tr D σ cls od H:=rfl
theorem nN:bootBuiltins "ValueError"=some (.type "ValueError"):=by decide +kernel
theorem dN {K:PySem.W.Frag} {H:Hp} {ea C C' Tl:Addr} {od:Option Addr} {Q:VK} (he:H ea=some (ExO ea (.ref C) od)) (hd:lw H od) (xe:XErr K Tl C) (x':XErr K Tl C') (ne:C'≠Tl) (q:Q (.bl (decide (C'=C))) H):rH K [.ref ea,.ref C'] H Q:=by
 refine ⟨ea,C,od,.ref C',decide (C'=C),rfl,he,hd,xe.x,⟨x'.x,?_⟩,q⟩
 rw [xe.mr,decide_eq_false ne,Bool.or_false]
theorem ml {K:PySem.W.Frag} {H:Hp} {ea C Tl:Addr} {od:Option Addr} {Q:VK} (he:H ea=some (ExO ea (.ref C) od)) (hd:lw H od) (xe:XErr K Tl C) (q:Q (.bl true) H):rH K [.ref ea,.ty "ValueError"] H Q :=
 ⟨ea,C,od,.ty "ValueError",true,rfl,he,hd,xe.x,⟨by decide +kernel,xe.mv⟩,q⟩
theorem r9 {H:Hp} {l b:Addr} {xs zs:List V} {Q:VK} (h1:H l=some (.lst xs)) (h2:H b=some (.lst zs)) (hz:xs.length + zs.length≤sizeLine) (q:∀ p,H p=none→Q (.ref p) (upd H p (.lst (xs ++ zs)))):rCat (.ref l) (.ref b) H Q:=⟨l,b,xs,zs,rfl,rfl,h1,h2,hz,q⟩
theorem Same.put {H H':Hp} {l:Addr} (e:Same H H') (n:H l=none) (o:HO):Same H (upd H' l o):=fun b u h=>by rw [ap (aY h n)]; exact e b u h
theorem pp (i:Int):∀ ns:List Int,inV (.int i) (ns.map V.int)=decide (i∈ns)
 | []=>by simp [inV]
 | n :: ns=>by
   have ih:=pp i ns
   unfold inV at ih ⊢
   rw [List.map_cons,List.any_cons,ih]
   have e:eqV (.int n) (.int i)=decide (n=i):=by first | rfl | simp [eqV]
   rw [e]
   by_cases h:i=n
   · subst h; simp
   · simp [h,Ne.symm h]
theorem m5:∀ ns:List Int,(ns.map V.int).all fW=true
 | []=>rfl
 | n :: ns=>by rw [List.map_cons,List.all_cons,m5 ns]; rfl
theorem inL {K:PySem.W.Frag} {neg:Bool} {H:Hp} {p:Addr} {i:Int} {ns:List Int} {Q:VK} (h:H p=some (.lst (ns.map V.int))) (q:Q (.bl (if neg then !decide (i∈ns) else decide (i∈ns))) H):rIn K neg (.int i) (.ref p) H Q:=by
 refine ⟨p,_,rfl,.inl (SqL.of h),rfl,m5 ns,?_⟩
 rw [pp]
 exact q
end L2
set_option Elab.async false
set_option linter.all false
set_option maxRecDepth 100000
namespace L2
open PySem PySem.Spec PyProof.Rows
theorem xw {M:Model} {A:Around} {E:Value→Shared→Prop} {s:Shared} {env:Env} {x:Str} {px:Pos} {v:Value} {Q:Unit→Shared→Prop} (h:wpAny M A (storeName env x v) Q E s):wpAny M A (assign (.Name x px) env v) Q E s:=by
 show wpAny M A (do standAt px; bindName env x v) Q E s
 exact wpAny_bind (wpAny_standAt (wpAny_bindName h))
section
variable {X:Cx} {Nc:List Str} {own:Nat} {js:List Nat} {scope:Scope} {cl:List (Str × Addr)}
theorem qP {i:Nat} {x:Str} {px pos:Pos} {elt target iter:Expr} {ifs:List Expr} {cpos:Pos} {wi:TI} {g:TG} {tc:TT} {te:TE} (hN:X.N.Nodup) (hxi:X.N[i]?=some x) (hxl:X.env.scope.names.lookup x=some .local) (hc:X.calm=true) (T:CompTxt X Nc own js scope cl)
   (hi:PI X target iter wi) (hg:∀ C s₂ H₁ fp,PG (X.comp Nc scope cl C s₂ H₁ fp) target g) (ht:∀ C s₂ H₁ fp,PTs (X.comp Nc scope cl C s₂ H₁ fp) ifs tc)
   (he:∀ C s₂ H₁ fp,PE (X.comp Nc scope cl C s₂ H₁ fp) elt te) (hs:∀ x,foldedSetIterable iter X.env x=pure x:=by intro _; rfl)
   (hsw:swapsWith (.ListComp elt [⟨target,iter,ifs,0⟩] scope cpos) (some (.Name x px)) pos.line X.env=pure true:=by rfl) :
   PS X (.Assign [.Name x px] (.ListComp elt [⟨target,iter,ifs,0⟩] scope cpos) pos) (oU (rN own js wi g tc te) (lZ i)):=by
 intro pins s σ H D I h
 rw [exec_Assign_Name_used _ _ _ _ hsw]
 refine wpAny_bind (wpAny_standAt (wpAny_bind ?_))
 rw [arm_evalThenUse_ListComp]
 refine wpAny_bind ?_
 refine wpAny_comprehension_free (use:=some (assign (.Name x px) X.env)) rfl hs T.clos T.kind T.names (thn (hi pins s σ H _ I h) fun v s1 h1=>thn h1 fun itv s2 h2=>?_)
 obtain ⟨it,fp,tn,J,H1,rfl,I1,Tn,st,f1,R⟩:=h2
 have hfp:∀ b∈fp,b < s2.heap.objs.size:=fun b hb=>let ⟨o,e,_⟩:=Tn.obj _ _ st b hb; Heap.lt_size e
 refine wpAny_newObj_type (wpAny_newFunctionEnv T.nocell (by intro y hy; simp at hy) (fun h₁ hns₁ hsb₁=>?_) T.kind)
 dsimp only at hns₁ hsb₁ ⊢
 generalize hH2:s2.heap.push { cls:=.type "list",dict:=none,data:=.seq ([]:List Value).toArray }=H2 at hns₁ hsb₁ ⊢
 have hC:H2.objs.size=s2.heap.objs.size + 1:=by rw [← hH2,Heap.size_push]
 have hDC:s2.heap.objs.size≠H2.objs.size:=by rw [hC]; exact Nat.ne_of_lt (Nat.lt_succ_self _)
 have hCle:s2.heap.objs.size≤H2.objs.size:=by rw [hC]; exact Nat.le_succ _
 have below:∀ b,b < s2.heap.objs.size→b≠H2.objs.size:=fun b hb=>by rw [hC]; exact Nat.ne_of_lt (Nat.lt_succ_of_lt hb)
 have old:∀ b o,s2.heap.get? b=some o→h₁.get? b=some o:=fun b o e=>hsb₁.extBut b o (below b (Heap.lt_size e)) (Heap.get?_push_of_some _ (hH2 ▸ Heap.get?_push_of_some _ e))
 have hacc:∃ n,h₁.get? s2.heap.objs.size=some { cls:=.type "list",data:=.seq ([]:List Value).toArray n }:=⟨_,hsb₁.extBut _ _ hDC (Heap.get?_push_of_some _ (hH2 ▸ Heap.get?_push_size _ rfl))⟩
 have st₁:tn 0 h₁:=Tn.keep _ _ _ st fun b _ o e=>old b o e
 obtain ⟨W,⟨m0,w0⟩,turn⟩:=R s2.heap.objs.size I1.fresh
 have Ic:=oQ (t:=s2.toks + ([]:List (Str × Value)).length) T I1 hCle (Nat.le_refl _) hDC f1 hfp old hns₁ hacc
 generalize hXc:X.comp Nc scope cl H2.objs.size s2 H1 fp=Xc at Ic
 have stat:∀ {H':Hp},(∀ b∈fp,H' b=none)→∀ b∈fp,dZ Xc [] H' b:=fun {H'} hn b hb=>by
   subst hXc
   exact ⟨hn b hb,below b (hfp b hb),(ms T I1 hCle f1 hfp).exfs b hb,.inl hb,fun x c e=>(f1 b hb).2.2.2.2.1 x c (T.cells x c e),fun p hp=>by cases hp⟩
 have fr0:∀ b∈fp,upd H1 s2.heap.objs.size (.lst []) b=none:=fun b hb=>by
   rw [ap (Nat.ne_of_lt (hfp b hb))]
   exact (f1 b hb).1
 have calmc:Xc.calm=true:=by subst hXc; exact hc
 have loop:∀ s₃:Shared,s₃={ s2 with heap:=h₁,toks:=s2.toks + ([]:List (Str × Value)).length } →
     codeAny (model X.prog X.w) X.A (.compLoop (.ListComp elt [⟨target,iter,ifs,0⟩] scope cpos) 0 (.ref it) (.ref s2.heap.objs.size) (compEnvC scope cl H2.objs.size X.env))
       (compPost (model X.prog X.w) X.A X.xe (some (assign (.Name x px) X.env)) (fun _ s'=>wpAny (model X.prog X.w) X.A (pure ()) (fun _ s''=>wpAny (model X.prog X.w) X.A (pure Flow.next) (SP X pins D) X.xe s'') X.xe s') (.ref s2.heap.objs.size) H2.objs.size) s₃:=by
   rintro s₃ rfl
   refine j6 (fun n s'=>∃ i ys σ' H',Inv Xc [] σ' H' s'∧tn i s'.heap∧(∀ b∈fp,H' b=none)∧W i n ys σ' H') ?_ m0 ⟨0,[],_,_,Ic,st₁,fr0,w0⟩
   rintro n s3 ⟨i,ys,σ3,H3,I3,st3,fr3,w3⟩
   rcases turn i n ys σ3 H3 w3 with ⟨stop,q⟩ | ⟨go,step⟩
   · subst hXc
     refine thn (Tn.done (X.comp Nc scope cl H2.objs.size s2 H1 fp) rfl rfl rfl hc i [] s3 σ3 H3 _ I3 (stat fr3) st3 stop) fun r s4 ⟨hr,I4⟩=>?_
     subst hr
     obtain ⟨m4,hn4,_⟩:=id I4.loc
     have J:=m6 I1 hCle f1 I4 (h':=s4.heap) (Heap.SameBut.refl _ _)
     have cl0:H2.objs.size≠X.env.locals:=Nat.ne_of_gt (Nat.lt_of_lt_of_le I1.lt hCle)
     have cy:X.s₀.heap.objs.size≤H2.objs.size:=Nat.le_trans I1.sz hCle
     have cc:∀ y c,X.env.cells.lookup y=some c→c≠H2.objs.size:=fun y c e=>by
       obtain ⟨v',o',ho',_⟩:=I1.cell y c e
       exact Nat.ne_of_lt (Nat.lt_of_lt_of_le (Heap.lt_size ho') hCle)
     have cp:∀ p∈X.pn ++ pins,p.1≠H2.objs.size:=fun p hp=>by
       obtain ⟨ho',_⟩:=I1.pin p hp
       exact Nat.ne_of_lt (Nat.lt_of_lt_of_le (Heap.lt_size ho') hCle)
     refine xw (m8 (v:=.ref s2.heap.objs.size) J hN hxi (.inl hxl) rfl (fun s5 I5 ⟨ad,sb,had⟩=>?_) (.inr hxl))
     have nad:H2.objs.size≠ad:=by
       rcases had with rfl | had
       · exact cl0
       · exact (cc _ _ had).symm
     obtain ⟨oo,es,ep,e1,e2⟩:=hn4
     refine ⟨m4,⟨oo,es,ep,(sb.2 _ nad).trans e1,e2⟩,fun h' hs'=>wpAny_pure (wpAny_pure ⟨_,H3,?_,q⟩)⟩
     exact I5.turned (it:=H2.objs.size) (t':=s5.toks) (fun b o n e=>hs'.extBut b o n e) I4.free cl0 (.inr cy) cc cp
   · subst hXc
     refine thn (Tn.item (X.comp Nc scope cl H2.objs.size s2 H1 fp) rfl rfl rfl hc i [] s3 σ3 H3 _ I3 (stat fr3) st3 go) fun r s4 ⟨u,hr,h4⟩=>?_
     subst hr
     refine thn h4 fun _ s5 ⟨x,H5,I5,r5,y5,st5,fr5⟩=>?_
     have I5':=I5.pinned (stat fr5) (Tn.obj _ _ st5)
     have back:∀ {σ7:St} {H7:Hp} {s7:Shared},Inv (X.comp Nc scope cl H2.objs.size s2 H1 fp) ([] ++ gX fp s5.heap) σ7 H7 s7→Inv (X.comp Nc scope cl H2.objs.size s2 H1 fp) [] σ7 H7 s7∧tn (i + 1) s7.heap∧∀ b∈fp,H7 b=none:=fun {σ7 H7 s7} I7=>by
       refine ⟨I7.unpinned,Tn.keep _ _ _ st5 fun b hb o e=>(I7.pin (b,o) (List.mem_append_right _ (List.mem_append_right _ (dI hb e)))).1,fun b hb=>?_⟩
       obtain ⟨o,e,d⟩:=Tn.obj _ _ st5 b hb
       exact (I7.pin (b,o) (List.mem_append_right _ (List.mem_append_right _ (dI hb e)))).2.1
     refine thn (hg _ _ _ _ _ s5 σ3 H5 x u _ I5' r5 (step x H5 y5)) fun _ s6 ⟨σ6,H6,I6,q6⟩=>?_
     refine mz (ht _ _ _ _ _ s6 σ6 H6 _ I6 q6) fun ok s7 H7 I7 q7=>?_
     cases ok with
     | false =>
       rw [if_neg Bool.false_ne_true] at q7 ⊢
       obtain ⟨m',hm,w7⟩:=q7
       obtain ⟨J1,J2,J3⟩:=back I7
       exact ⟨m',hm,i + 1,ys,σ6,H7,J1,J2,J3,w7⟩
     | true =>
       rw [if_pos rfl] at q7 ⊢
       refine bj (he _ _ _ _ _ s7 σ6 H7 _ I7 q7) fun y s8 yv H8 I8 r8 ⟨hp8,hl8,m',hm,w8⟩=>?_
       refine thn (cq _ s8 σ6 H8 (.ref s2.heap.objs.size) [yv] _ [y] (fun v' H'=>W (i + 1) m' (ys ++ [yv]) σ6 H') I8 rfl (.cons r8 .nil) ⟨_,ys,yv,rfl,rfl,hp8,hl8,w8⟩) fun v9 s9 ⟨_,H9,I9,_,w9⟩=>?_
       obtain ⟨J1,J2,J3⟩:=back I9
       exact ⟨m',hm,i + 1,ys ++ [yv],σ6,H9,J1,J2,J3,w9⟩
 exact codeAny_compStart_list (loop _ rfl) (Tn.self _ 0 _ _ _ st₁ (loop _ rfl))
end
end L2
set_option Elab.async false
set_option linter.all false
set_option maxRecDepth 100000
namespace L2
open PySem PySem.Spec PyProof.Rows
theorem jk {K:PySem.W.Frag} {H:Hp}:∀ ns:List Int,DeepAll K H (ns.map V.int) (ns.map PyData.int)
 | []=>.nil
 | n :: ns=>.cons (.int n) (jk ns)
theorem iG:∀ ns:List Int,PyData.depthAll (ns.map PyData.int)≤1
 | []=>by simp [PyData.depthAll]
 | n :: ns=>by
   simp only [List.map_cons,PyData.depthAll]
   have:=iG ns
   have:(PyData.int n).depth≤1:=by simp [PyData.depth]
   omega
end L2
set_option Elab.async false
set_option linter.all false
set_option maxRecDepth 100000
namespace Pb
open L2 PySem
def front (r:Int) (par:Int→Int) (p:Int):V:=if p=r then .non else .int (par p)
def bx (m:Int) (rs:List Road) (fv:V) (p:Int):List Int:=(dh m rs p).filter fun v=>decide (V.int v≠fv)
variable {m:Int} {rs:List Road} {r:Int} {par:Int→Int} {dep:Int→Nat}
theorem Rooted.ne (R:Rooted m rs r par dep) {v:Int} (h0:0≤v) (h1:v < m) (hr:v≠r):par v≠v:=fun z=>by
 have:=(R.up v h0 h1 hr).2.2
 rw [z] at this
 omega
theorem dA (g:Good m rs) (R:Rooted m rs r par dep) {p v:Int} (p0:0≤p) (p1:p < m):v∈bx m rs (front r par p) p↔(0≤v∧v < m)∧v≠r∧par v=p:=by
 unfold bx
 rw [List.mem_filter,kh g,decide_eq_true_eq]
 constructor
 · rintro ⟨ad,hf⟩
   obtain ⟨_,hv,_⟩:=g.adj ad
   refine ⟨hv,?_⟩
   obtain ⟨x,hx,j⟩:=ad
   have key:∀ u w:Int,(u≠r∧par u=w)∨(w≠r∧par w=u)→u=p→w=v→v≠r∧par v=p:=fun u w h e1 e2=>by
     subst e1 e2
     rcases h with h | h
     · exfalso
       apply hf
       unfold front
       rw [if_neg h.1,h.2]
     · exact h
   rcases j with ⟨a,b⟩ | ⟨a,b⟩
   · exact key x.a x.b (R.road x hx) a b
   · exact key x.b x.a (R.road x hx).symm a b
 · rintro ⟨hv,hr,hp⟩
   have u:=R.up v hv.1 hv.2 hr
   rw [hp] at u
   refine ⟨?_,fun z=>?_⟩
   · obtain ⟨x,hx,j⟩:=u.2.1
     exact ⟨x,hx,j.elim (fun q=>.inr ⟨q.2,q.1⟩) (fun q=>.inl ⟨q.2,q.1⟩)⟩
   · unfold front at z
     by_cases c:p=r
     · rw [if_pos c] at z; cases z
     · rw [if_neg c] at z
       have e:v=par p:=by injection z
       have w:=(R.up p p0 p1 c).2.2
       have w2:=u.2.2
       rw [← e] at w
       omega
theorem iu {fv:V} {p:Int}:(bx m rs fv p).Nodup:=(lJ m rs p).filter _
def nl (m:Int) (par:Int→Int) (ks:List Int):List V:=(below m.toNat).map fun v=>if v∈ks then .int (par v) else .non
def gK (m r:Int) (par:Int→Int):List V:=(below m.toNat).map (front r par)
theorem gn {ks:List Int}:(nl m par ks).length=m.toNat:=by unfold nl; rw [List.length_map,bL]
theorem ee {n i:Nat} (h:i < n):(below n)[i]?=some (i:Int):=by unfold below; rw [List.getElem?_map,List.getElem?_range h]; rfl
theorem sA {ks:List Int} {v:Int} (h0:0≤v) (h1:v < m):(nl m par ks)[v.toNat]?=some (if v∈ks then .int (par v) else .non):=by
 unfold nl
 rw [List.getElem?_map,ee (by omega)]
 show some (if ((v.toNat:Nat):Int)∈ks then V.int (par ((v.toNat:Nat):Int)) else V.non)=_
 rw [Int.toNat_of_nonneg h0]
theorem AS {ks:List Int} {v:Int} (h0:0≤v) (h1:v < m):(nl m par ks).set v.toNat (.int (par v))=nl m par (ks ++ [v]):=by
 refine List.ext_getElem? fun i=>?_
 rw [List.getElem?_set]
 by_cases c:i < m.toNat
 · have e:∀ l:List Int,(nl m par l)[i]?=some (if (i:Int)∈l then .int (par (i:Int)) else .non):=fun l=>by
     have:=sA (par:=par) (ks:=l) (v:=(i:Int)) (m:=m) (by omega) (by omega)
     rwa [Int.toNat_natCast] at this
   rw [e,gn]
   by_cases z:v.toNat=i
   · have z2:v=(i:Int):=by omega
     rw [if_pos z,if_pos (by omega),e,if_pos (by rw [z2]; simp),← z2]
   · rw [if_neg z,e]
     have z2:¬ ((i:Int)=v):=by omega
     simp [z2]
 · have e:∀ l:List Int,(nl m par l)[i]?=none:=fun l=>List.getElem?_eq_none (by rw [gn]; omega)
   rw [e,e,gn]
   by_cases z:v.toNat=i
   · omega
   · rw [if_neg z]
structure AInv (m:Int) (rs:List Road) (r:Int) (par:Int→Int) (ks ws:List Int):Prop where
 nd:ks.Nodup
 rng:∀ k∈ks,0≤k∧k < m
 nr:r ∉ ks
 sub:∀ w∈ws,w=r∨w∈ks
 wnd:ws.Nodup
 ok:∀ v∈ks,par v ∉ ws∧(par v=r∨par v∈ks)
 dn:∀ v,0≤v→v < m→v≠r→(par v=r∨par v∈ks)→par v ∉ ws→v∈ks
theorem AInv.start:AInv m rs r par [] [r] where
 nd:=List.nodup_nil
 rng:=fun _ h=>by cases h
 nr:=fun h=>by cases h
 sub:=fun w h=>.inl (List.mem_singleton.mp h)
 wnd:=by simp
 ok:=fun _ h=>by cases h
 dn:=fun v _ _ _ h n=>by
   rcases h with h | h
   · exact absurd (by rw [h]; simp) n
   · cases h
theorem AInv.at_ (J:AInv m rs r par ks ws) (r0:0≤r) (r1:r < m) {p:Int} (hp:p∈ws):0≤p∧p < m:=by
 rcases J.sub p hp with h | h
 · rw [h]; exact ⟨r0,r1⟩
 · exact J.rng p h
theorem AInv.front (J:AInv m rs r par ks ws) {p:Int} (hp:p∈ws):(if p∈ks then V.int (par p) else V.non)=front r par p:=by
 unfold Pb.front
 by_cases c:p=r
 · rw [if_pos c,if_neg (by rw [c]; exact J.nr)]
 · rw [if_neg c,if_pos ((J.sub p hp).resolve_left c)]
theorem AInv.step (g:Good m rs) (R:Rooted m rs r par dep) (r0:0≤r) (r1:r < m) {ks ws ws':List Int} {p:Int} (J:AInv m rs r par ks ws) (e:ws.Perm (p :: ws')):AInv m rs r par (ks ++ bx m rs (Pb.front r par p) p) (ws' ++ bx m rs (Pb.front r par p) p):=by
 have hp:p∈ws:=e.mem_iff.mpr List.mem_cons_self
 have pr:=J.at_ r0 r1 hp
 have mk:∀ v,v∈bx m rs (Pb.front r par p) p↔(0≤v∧v < m)∧v≠r∧par v=p:=fun v=>dA g R pr.1 pr.2
 have nk:(bx m rs (Pb.front r par p) p).Nodup:=iu
 generalize bx m rs (Pb.front r par p) p=kk at mk nk ⊢
 have dis:∀ v∈kk,v ∉ ks:=fun v hv z=>(J.ok v z).1 (by rw [((mk v).mp hv).2.2]; exact hp)
 obtain ⟨n1,n2⟩:=List.nodup_cons.mp (e.nodup_iff.mp J.wnd)
 have sw:∀ w∈ws',w∈ws:=fun w hw=>e.mem_iff.mpr (List.mem_cons_of_mem _ hw)
 refine ⟨?_,?_,?_,?_,?_,?_,?_⟩
 · rw [List.nodup_append]
   exact ⟨J.nd,nk,fun a ha b hb z=>dis b hb (z ▸ ha)⟩
 · intro k hk
   rcases List.mem_append.mp hk with h | h
   · exact J.rng k h
   · exact ((mk k).mp h).1
 · intro z
   rcases List.mem_append.mp z with h | h
   · exact J.nr h
   · exact ((mk r).mp h).2.1 rfl
 · intro w hw
   rcases List.mem_append.mp hw with h | h
   · exact (J.sub w (sw w h)).imp id (List.mem_append_left _)
   · exact .inr (List.mem_append_right _ h)
 · rw [List.nodup_append]
   refine ⟨n2,nk,fun a ha b hb z=>?_⟩
   subst z
   rcases J.sub a (sw a ha) with h | h
   · exact ((mk a).mp hb).2.1 h
   · exact dis a hb h
 · intro v hv
   rcases List.mem_append.mp hv with h | h
   · obtain ⟨o1,o2⟩:=J.ok v h
     refine ⟨fun z=>?_,o2.imp id (List.mem_append_left _)⟩
     rcases List.mem_append.mp z with z | z
     · exact o1 (sw _ z)
     · rcases o2 with o | o
       · exact ((mk _).mp z).2.1 o
       · exact dis _ z o
   · obtain ⟨q1,q2,q3⟩:=(mk v).mp h
     rw [q3]
     refine ⟨fun z=>?_,(J.sub p hp).imp id (List.mem_append_left _)⟩
     rcases List.mem_append.mp z with z | z
     · exact n1 z
     · obtain ⟨w1,w2,w3⟩:=(mk p).mp z
       exact R.ne w1.1 w1.2 w2 w3
 · intro v v0 v1 vr h n
   have nk2:par v ∉ kk:=fun z=>n (List.mem_append_right _ z)
   have h':par v=r∨par v∈ks:=h.imp id fun z=>(List.mem_append.mp z).resolve_right nk2
   by_cases c:par v=p
   · exact List.mem_append_right _ ((mk v).mpr ⟨⟨v0,v1⟩,vr,c⟩)
   · refine List.mem_append_left _ (J.dn v v0 v1 vr h' fun z=>?_)
     rcases List.mem_cons.mp (e.mem_iff.mp z) with z | z
     · exact c z
     · exact n (List.mem_append_left _ z)
theorem AInv.perm {ks ws ws2:List Int} (J:AInv m rs r par ks ws) (e:ws.Perm ws2):AInv m rs r par ks ws2 where
 nd:=J.nd
 rng:=J.rng
 nr:=J.nr
 sub:=fun w h=>J.sub w (e.mem_iff.mpr h)
 wnd:=e.nodup_iff.mp J.wnd
 ok:=fun v h=>⟨fun z=>(J.ok v h).1 (e.mem_iff.mpr z),(J.ok v h).2⟩
 dn:=fun v h0 h1 hr h n=>J.dn v h0 h1 hr h fun z=>n (e.mem_iff.mp z)
theorem AInv.all (R:Rooted m rs r par dep) {ks:List Int} (J:AInv m rs r par ks []):∀ v,0≤v→v < m→v≠r→v∈ks:=by
 have key:∀ n v,dep v=n→0≤v→v < m→v≠r→v∈ks:=by
   intro n
   induction n with
   | zero =>
     intro v e v0 v1 vr
     have:=(R.up v v0 v1 vr).2.2
     omega
   | succ n ih =>
     intro v e v0 v1 vr
     have u:=R.up v v0 v1 vr
     refine J.dn v v0 v1 vr ?_ (by simp)
     by_cases c:par v=r
     · exact .inl c
     · exact .inr (ih (par v) (by omega) u.1.1 u.1.2 c)
 exact fun v=>key _ v rfl
theorem AInv.done (R:Rooted m rs r par dep) {ks:List Int} (J:AInv m rs r par ks []):nl m par ks=gK m r par:=by
 unfold nl gK
 refine List.map_congr_left fun v hv=>?_
 have hv':0≤v∧v < m:=by
   unfold below at hv
   obtain ⟨k,hk,rfl⟩:=List.mem_map.mp hv
   have:=List.mem_range.mp hk
   omega
 unfold Pb.front
 by_cases c:v=r
 · rw [if_pos c,if_neg (by rw [c]; exact J.nr)]
 · rw [if_neg c,if_pos (J.all R v hv'.1 hv'.2 c)]
theorem ya (n:Nat) (v:V):(List.replicate n [v]).flatten=List.replicate n v:=by
 induction n with
 | zero=>rfl
 | succ n ih=>rw [List.replicate_succ,List.flatten_cons,ih,List.replicate_succ]; rfl
theorem An:nl m par []=List.replicate m.toNat V.non:=by
 unfold nl
 refine List.ext_getElem? fun i=>?_
 by_cases c:i < m.toNat
 · rw [List.getElem?_map,ee c,List.getElem?_replicate,if_pos c]
   simp
 · rw [List.getElem?_eq_none (by rw [List.length_map,bL]; omega),List.getElem?_eq_none (by rw [List.length_replicate]; omega)]
def eV (par:Int→Int):Nat→Int→List Int
 | 0,v=>[v]
 | n + 1,v=>v :: eV par n (par v)
theorem Rooted.pos (R:Rooted m rs r par dep) {v:Int} (h0:0≤v) (h1:v < m) (hr:v≠r):dep v=dep (par v) + 1:=(R.up v h0 h1 hr).2.2.symm
theorem l5 (R:Rooted m rs r par dep):∀ (n:Nat) (v:Int),dep v=n→0≤v→v < m→(eV par n v).Nodup∧(∀ x∈eV par n v,(0≤x∧x < m)∧dep x≤n)∧(eV par n v).length=n + 1
 | 0,v,e,h0,h1=>⟨by unfold eV; simp,fun x hx=>by
     unfold eV at hx
     rw [List.mem_singleton.mp hx]
     exact ⟨⟨h0,h1⟩,by omega⟩,rfl⟩
 | n + 1,v,e,h0,h1=>by
   have hr:v≠r:=fun z=>by rw [z,R.root] at e; omega
   have u:=R.up v h0 h1 hr
   obtain ⟨i1,i2,i3⟩:=l5 R n (par v) (by omega) u.1.1 u.1.2
   unfold eV
   refine ⟨List.nodup_cons.mpr ⟨fun z=>?_,i1⟩,fun x hx=>?_,by rw [List.length_cons,i3]⟩
   · have:=(i2 v z).2
     omega
   · rcases List.mem_cons.mp hx with rfl | hx
     · exact ⟨⟨h0,h1⟩,by omega⟩
     · exact ⟨(i2 x hx).1,by have:=(i2 x hx).2; omega⟩
theorem tL (R:Rooted m rs r par dep) {v:Int} (h0:0≤v) (h1:v < m):dep v + 1≤m.toNat:=by
 obtain ⟨i1,i2,i3⟩:=l5 R _ v rfl h0 h1
 have:=cf (m:=m) (by omega) i1 fun x hx=>(i2 x hx).1
 omega
theorem oA {v:Int} (h0:0≤v) (h1:v < m):(gK m r par)[v.toNat]?=some (front r par v):=by
 unfold gK
 rw [List.getElem?_map,ee (by omega)]
 show some (front r par ((v.toNat:Nat):Int))=_
 rw [Int.toNat_of_nonneg h0]
theorem md (g:Good m rs) (R:Rooted m rs r par dep) {v:Int} (h0:0≤v) (h1:v < m) (hr:v≠r):∃ k,bK rs v (par v)=some k∧2≤k∧k≤1000000:=by
 obtain ⟨x,hx,j⟩:=(R.up v h0 h1 hr).2.1
 obtain ⟨i,hi⟩:=List.getElem?_of_mem hx
 have ok:=g.ok x hx
 rw [jf g hi j]
 unfold c9
 by_cases c:x.a=v∧x.b=par v
 · rw [if_pos c]
   exact ⟨_,rfl,ok.t0,ok.t1⟩
 · rw [if_neg c]
   have c2:x.a=par v∧x.b=v:=by
     rcases j with j | j
     · exact absurd j c
     · exact ⟨j.2,j.1⟩
   rw [if_pos c2]
   exact ⟨_,rfl,ok.u0,ok.u1⟩
def fH (m:Int) (rs:List Road) (r:Int) (par:Int→Int):Nat→Int→List Int
 | 0,v=>[v]
 | n + 1,v=>v :: (bx m rs (front r par v) v).flatMap (fH m rs r par n)
def dj (m:Int) (rs:List Road) (r:Int) (par:Int→Int) (dep:Int→Nat) (v:Int):List Int:=fH m rs r par (m.toNat - 1 - dep v) v
theorem gQ {f h:Int→List Int}:∀ {l:List Int},(∀ x∈l,f x=h x)→l.flatMap f=l.flatMap h
 | [],_=>rfl
 | a :: l,e=>by rw [List.flatMap_cons,List.flatMap_cons,e a List.mem_cons_self,gQ fun x hx=>e x (List.mem_cons_of_mem _ hx)]
theorem mY (g:Good m rs) (R:Rooted m rs r par dep) {v:Int} (h0:0≤v) (h1:v < m):dj m rs r par dep v=v :: (bx m rs (front r par v) v).flatMap (dj m rs r par dep):=by
 have mk:∀ u,u∈bx m rs (front r par v) v→(0≤u∧u < m)∧u≠r∧par u=v:=fun u=>(dA g R h0 h1).mp
 have du:∀ u∈bx m rs (front r par v) v,dep u=dep v + 1∧dep u + 1≤m.toNat:=fun u hu=>by
   obtain ⟨w1,w2,w3⟩:=mk u hu
   have:=R.pos w1.1 w1.2 w2
   rw [w3] at this
   exact ⟨this,tL R w1.1 w1.2⟩
 unfold dj
 cases e:m.toNat - 1 - dep v with
 | zero =>
   have:bx m rs (front r par v) v=[]:=List.eq_nil_iff_forall_not_mem.mpr fun u hu=>by
     have:=du u hu
     omega
   rw [this]
   rfl
 | succ n =>
   show v :: (bx m rs (front r par v) v).flatMap (fH m rs r par n)=_
   rw [gQ fun u hu=>show fH m rs r par n u=fH m rs r par (m.toNat - 1 - dep u) u by rw [show m.toNat - 1 - dep u=n by have:=du u hu; omega]]
def up (par:Int→Int):Nat→Int→Int
 | 0,x=>x
 | k + 1,x=>par (up par k x)
theorem k9 {f:Int→List Int}:∀ {l:List Int},l.Nodup→(∀ u∈l,(f u).Nodup)→(∀ u∈l,∀ w∈l,∀ x,x∈f u→x∈f w→u=w)→(l.flatMap f).Nodup
 | [],_,_,_=>by simp
 | a :: l,n,h1,h2=>by
   obtain ⟨n1,n2⟩:=List.nodup_cons.mp n
   rw [List.flatMap_cons,List.nodup_append]
   refine ⟨h1 a List.mem_cons_self,k9 n2 (fun u hu=>h1 u (List.mem_cons_of_mem _ hu)) (fun u hu w hw=>h2 u (List.mem_cons_of_mem _ hu) w (List.mem_cons_of_mem _ hw)),fun x hx y hy z=>?_⟩
   subst z
   obtain ⟨w,hw,hxw⟩:=List.mem_flatMap.mp hy
   have:=h2 a List.mem_cons_self w (List.mem_cons_of_mem _ hw) x hx hxw
   exact n1 (this ▸ hw)
theorem qi (g:Good m rs) (R:Rooted m rs r par dep):∀ (n:Nat) (v:Int),0≤v→v < m→(fH m rs r par n v).Nodup∧∀ x∈fH m rs r par n v,(0≤x∧x < m)∧∃ k,dep x=dep v + k∧up par k x=v
 | 0,v,h0,h1=>⟨by unfold fH; simp,fun x hx=>by
     unfold fH at hx
     rw [List.mem_singleton.mp hx]
     exact ⟨⟨h0,h1⟩,0,rfl,rfl⟩⟩
 | n + 1,v,h0,h1=>by
   have mk:∀ u,u∈bx m rs (front r par v) v→(0≤u∧u < m)∧u≠r∧par u=v:=fun u=>(dA g R h0 h1).mp
   have nk:(bx m rs (front r par v) v).Nodup:=iu
   have ih:=fun u hu=>qi g R n u (mk u hu).1.1 (mk u hu).1.2
   have du:∀ u∈bx m rs (front r par v) v,dep u=dep v + 1:=fun u hu=>by
     obtain ⟨w1,w2,w3⟩:=mk u hu
     have:=R.pos w1.1 w1.2 w2
     rw [w3] at this
     exact this
   unfold fH
   refine ⟨List.nodup_cons.mpr ⟨fun z=>?_,k9 nk (fun u hu=>(ih u hu).1) fun u hu w hw x hx hy=>?_⟩,fun x hx=>?_⟩
   · obtain ⟨u,hu,hv⟩:=List.mem_flatMap.mp z
     obtain ⟨_,k,e,_⟩:=(ih u hu).2 v hv
     have:=du u hu
     omega
   · obtain ⟨_,k1,e1,f1⟩:=(ih u hu).2 x hx
     obtain ⟨_,k2,e2,f2⟩:=(ih w hw).2 x hy
     have d1:=du u hu
     have d2:=du w hw
     have:k1=k2:=by omega
     rw [← f1,← f2,this]
   · rcases List.mem_cons.mp hx with rfl | hx
     · exact ⟨⟨h0,h1⟩,0,rfl,rfl⟩
     · obtain ⟨u,hu,hv⟩:=List.mem_flatMap.mp hx
       obtain ⟨xr,k,e,f⟩:=(ih u hu).2 x hv
       exact ⟨xr,k + 1,by rw [e,du u hu]; omega,by show par (up par k x)=v; rw [f]; exact (mk u hu).2.2⟩
theorem ic (g:Good m rs) (R:Rooted m rs r par dep) {v:Int} (h0:0≤v) (h1:v < m):(dj m rs r par dep v).length≤24:=by
 obtain ⟨n1,n2⟩:=qi g R (m.toNat - 1 - dep v) v h0 h1
 have:=cf (m:=m) (by omega) n1 fun x hx=>(n2 x hx).1
 have:=g.m24
 unfold dj
 omega
end Pb
set_option Elab.async false
set_option linter.all false
set_option maxRecDepth 100000
namespace L2
open PySem PySem.Spec PyProof.Rows
def Itv (K:PySem.W.Frag) (a:Addr) (n:Nat):It :=
 ⟨fun i H=>i < n∧∃ xs x,SqL K H a xs∧xs[n - 1 - i]?=some x,fun i H x H'=>H'=H∧∀ xs,SqL K H a xs→xs[n - 1 - i]?=some x,fun i H=>n≤i⟩
theorem vg {P:Program} {w:World} {K:PySem.W.Frag} {tg:Expr} (a it:Addr) (n:Nat):Turn P w K tg (Itv K a n) [it] it (fun i h=>i≤n∧h.IsRevIter it a ((n:Int) - 1 - (i:Int))) where
 mem:=by simp
 obj:=fun i h st b hb=>by
   have e:b=it:=by simpa using hb
   subst e
   obtain ⟨_,o,e,c,d⟩:=st
   exact ⟨o,e,fun v z=>by rw [d] at z; cases z⟩
 keep:=fun i h h' st k=>⟨st.1,st.2.at fun o e=>k it (by simp) o e⟩
 item:=by
   intro X hP hw hK hc i pins s σ H E I hf st hg
   subst hP hw hK
   obtain ⟨hi,xs,x,hq,hx⟩:=hg
   obtain ⟨its,rv,p,hz⟩:=I.list hq
   obtain ⟨u,hu,ru⟩:=rv.get hx
   obtain ⟨f0,f1,f2,f3,f4,f5⟩:=hf it (by simp)
   have e0:(n:Int) - 1 - (i:Int)=((n - 1 - i:Nat):Int):=by omega
   have st2:=st.2
   rw [e0] at st2
   refine wpAny_pyNext_rev_item st2 p.isList (x:=u) (by simpa using hu) fun h' st' sb=>?_
   have I1:Inv X pins σ H { s with heap:=h' }:=I.turned (t':=s.toks) (fun b o hb e=>(sb.2 b hb).trans e) f0 f1 f3 f4 f5
   obtain ⟨o,e,c,d⟩:=id st'
   have e1:((n - 1 - i:Nat):Int) - 1=(n:Int) - 1 - ((i + 1:Nat):Int):=by omega
   rw [e1] at st'
   exact ⟨u,rfl,oj (s:={ s with heap:=h' }) e c d (by decide) ⟨x,H,I1,ru,⟨rfl,fun ys hy=>by rw [I.list_inj hy hq]; exact hx⟩,⟨hi,st'⟩,fun b hb=>(hf b hb).1⟩⟩
 done:=by
   intro X hP hw hK hc i pins s σ H E I hf st hg
   subst hP hw hK
   have hg':n≤i:=hg
   obtain ⟨f0,f1,f2,f3,f4,f5⟩:=hf it (by simp)
   have st2:=st.2
   have st1:=st.1
   rw [show (n:Int) - 1 - (i:Int)=-1 by omega] at st2
   exact wpAny_pyNext_rev_end (I.ok.hd hc) st2 fun h' eb=>⟨rfl,I.turned (t':=s.toks) (fun b o hb e=>eb b o hb e) f0 f1 f3 f4 f5⟩
 self:=fun _ _ _ _ _ st h=>wpAny_pyIter_revIter st.2 h
def vS (K:PySem.W.Frag) (tl:TE):TI:=fun σ H R=>tl σ H fun x H1=>∃ a xs,x=.ref a∧SqL K H1 a xs∧R (Itv K a xs.length) H1
section
variable {X:Cx} {tg e:Expr} {te:TE} {p2 pos:Pos}
theorem oZ (hg:Gl X "reversed") (hm:X.mg "reversed"=none) (he:PE X e te) (h2:starEach [e] X.env=[(false,eval e X.env)]:=by rfl):PI X tg (.Call (.Name "reversed" p2) [e] [] pos) (vS X.K te):=by
 intro pins s σ H R I h
 refine Call_ (fu I hg hm boot_reversed (PyProof.Rows.callWith_type1 ?_ h2 rfl))
 rw [h2]
 show wpAny _ _ (spliced ((false,eval e X.env) :: backTo pos [])) _ _ s
 refine Calls.spliced_cons (bj (he pins s σ H _ I h) fun u s1 x H1 I1 r1 q1=>Calls.spliced_nil ?_)
 obtain ⟨a,ys,ex,sa,q⟩:=q1
 subst ex
 cases r1
 obtain ⟨its,rv,pl,hz⟩:=I1.list sa
 refine call_reversed_list pl.isList ?_
 have sz:its.toArray.size=ys.length:=by rw [List.size_toArray,rv.length]
 rw [sz]
 refine wpAny_pyIter_revIter (i:=(ys.length:Int) - 1) (l:=a) ⟨_,Heap.get?_push_size _ rfl,rfl,rfl⟩ ?_
 refine ⟨s1.heap.objs.size,[s1.heap.objs.size],_,_,H1,rfl,I1.kept (t':=s1.toks) fun b o e=>Heap.get?_push_of_some _ e,vg a _ ys.length,⟨Nat.zero_le _,?_⟩,fun b hb=>?_,q⟩
 · exact ⟨_,Heap.get?_push_size _ rfl,rfl,by simp [revObj]⟩
 · have e:b=s1.heap.objs.size:=by simpa using hb
   subst e
   exact I1.fpOk (Nat.le_refl _) (I1.hok.fresh (Nat.le_refl _))
end
theorem oW {K:PySem.W.Frag} {a:Addr} {xs:List V} {g:TG} {tb:TS} {D:Ends} {σ:St} {H:Hp} (Pv:Nat→St→Hp→Prop) (h0:Pv 0 σ H) (hl:∀ i σ H,i≤xs.length→Pv i σ H→SqL K H a xs)
   (hs:∀ (i:Nat) (x:V) (σ:St) (H:Hp) (N:St→Hp→Prop),(∀ σ' H',Pv (i + 1) σ' H'→N σ' H')→xs.reverse[i]?=some x→Pv i σ H→g x σ H fun σ2 H2=>tb { D with nx:=N,ct:=N,bk:=D.nx } σ2 H2) (hd:∀ σ H,Pv xs.length σ H→D.nx σ H) :
   fZ (Itv K a xs.length) D g tb σ H:=by
 refine ⟨fun i m σ H=>m=xs.length - i∧i≤xs.length∧Pv i σ H,⟨xs.length,by simp,Nat.zero_le _,h0⟩,?_⟩
 rintro i m σ H ⟨rfl,hi,p⟩
 have q:=hl i σ H hi p
 by_cases hlt:i < xs.length
 · have hx:xs[xs.length - 1 - i]?=some xs[xs.length - 1 - i]:=List.getElem?_eq_getElem (by omega)
   refine .inr ⟨⟨hlt,xs,_,q,hx⟩,fun σ' H'=>∃ m',m' < xs.length - i∧(m'=xs.length - (i + 1)∧i + 1≤xs.length∧Pv (i + 1) σ' H'),fun σ' H' z=>z,fun x H' y=>?_⟩
   obtain ⟨e,y⟩:=y
   subst e
   exact hs i x σ _ _ (fun σ' H' p'=>⟨xs.length - (i + 1),by omega,rfl,hlt,p'⟩) (by rw [List.getElem?_reverse hlt]; exact y xs q) p
 · have e:i=xs.length:=by omega
   subst e
   exact .inl ⟨Nat.le_refl _,hd σ H p⟩
end L2
set_option Elab.async false
set_option linter.all false
set_option maxRecDepth 100000
namespace L2
open PySem PySem.Spec PyProof.Rows
def sV (te:TE):TE:=fun σ H Q=>te σ H fun x H1=>∃ i,x=.int i∧0≤i∧i≤100000∧∀ l,H1 l=none→Q (.ref l) (upd H1 l (.lst ((Pb.below i.toNat).map V.int)))
section
variable {X:Cx} {e:Expr} {te:TE} {p1 p2 pos pos2:Pos}
end
end L2
set_option Elab.async false
set_option linter.all false
set_option maxRecDepth 100000
namespace L2
open PySem PySem.Spec PyProof.Rows PySem.W
section
variable {X:Cx}
end
end L2
set_option Elab.async false
set_option linter.all false
set_option maxRecDepth 100000
namespace L2
open PySem PySem.Spec PyProof.Rows
section
variable {X:Cx}
end
def A8 (_ j:Int):Prop:=0 < j∧j < 18446744073709551616
theorem pI {X:Cx}:OpR X (binaryOp .FloorDiv) (rI A8 fun i j=>.int (i / j)):=opI fun i j _ _ _ _ _ hc q=>by
 have h1:(0:Int) < j:=hc.1
 have h2:j < 18446744073709551616:=hc.2
 refine floordiv_int (by omega) (by rw [Int.fdiv_eq_ediv_of_nonneg i (by omega)]; exact q) (.inl ?_)
 have h3:j.natAbs.log2 < 64:=(Nat.log2_lt (by omega)).mpr (by omega)
 unfold Builtin.divisionGoesByPylong
 have hz:(j == 0)=false:=by simp; omega
 simp only [hz,Bool.false_eq_true,if_false]
 have:¬ (j.natAbs.log2 / 30 + 1 > 300):=by omega
 simp [this]
theorem y3 {X:Cx} (K:PySem.W.Frag) (hK:X.K=K) {es:List Expr} {k:Nat} {pos:Pos} {t:TGs} {n:Nat} (hc:X.calm=true) (h:PGs X es t)
   (hn:(assignEach es X.env).length=n:=by rfl) (hst:(assignEach es X.env).findIdx? (·.1)=none:=by rfl):PG X (.Tuple es k pos) (rm K n t):=by
 subst hK
 exact gk hc h hn hst
theorem xz {K:PySem.W.Frag} {c d:Bool} {a b p:Addr} {xs zs:List V} {Q:VK} {g:TG} {tc:TT} {te:TE} {σ0:St} {H0:Hp} (Pv:Nat→List V→St→Hp→Prop) (h0:Pv 0 [] σ0 H0) (hl:∀ i ys σ H,Pv i ys σ H→SqX K c H a xs∧SqX K d H b zs)
   (hs:∀ (i:Nat) (x z:V) (ys:List V) (σ:St) (H:Hp) (q:Addr) (N:List V→St→Hp→Prop),(∀ ys' σ' H',Pv (i + 1) ys' σ' H'→N ys' σ' H')→xs[i]?=some x→zs[i]?=some z→Pv i ys σ H→H q=none→g (.ref q) σ (upd H q (.tup [x,z])) fun σ2 H2=>tc σ2 H2 fun b H3 =>
     if b=true then te σ2 H3 fun y H4=>H4 p=some (.lst ys)∧ys.length < sizeLine∧N (ys ++ [y]) σ2 (upd H4 p (.lst (ys ++ [y]))) else N ys σ2 H3)
   (hd:∀ ys σ H,Pv (min xs.length zs.length) ys σ H→Q (.ref p) H):ja (Itz K c d a b) p Q g tc te σ0 H0:=by
 refine ⟨fun i m ys σ H=>m=min xs.length zs.length - i∧i≤min xs.length zs.length∧Pv i ys σ H,⟨_,rfl,Nat.zero_le _,h0⟩,?_⟩
 rintro i m ys σ H ⟨rfl,hi,pv⟩
 obtain ⟨q1,q2⟩:=hl i ys σ H pv
 by_cases hlt:i < min xs.length zs.length
 · refine .inr ⟨⟨xs,zs,xs[i]'(by omega),zs[i]'(by omega),q1,q2,List.getElem?_eq_getElem (by omega),List.getElem?_eq_getElem (by omega)⟩,fun x H' y=>?_⟩
   obtain ⟨p',x',y',hp,rfl,rfl,e1,e2⟩:=y
   exact hs i x' y' ys σ H p' (fun ys' σ' H'=>∃ m',m' < min xs.length zs.length - i∧(m'=min xs.length zs.length - (i + 1)∧i + 1≤min xs.length zs.length∧Pv (i + 1) ys' σ' H')) (fun ys' σ' H' pv'=>⟨min xs.length zs.length - (i + 1),by omega,rfl,hlt,pv'⟩) (e1 xs q1) (e2 zs q2) pv hp
 · have e:i=min xs.length zs.length:=by omega
   subst e
   exact .inl ⟨⟨xs,zs,q1,q2,by omega⟩,hd ys σ H pv⟩
theorem kq {H:Hp} {l:Addr} {xs:List V} {i:Int} {v:V} {Q:Hp→Prop} (h:H l=some (.lst xs)) (i0:0≤i) (i1:i < xs.length) (q:Q (upd H l (.lst (xs.set i.toNat v)))):rSetL (.ref l) (.int i) v H Q :=
 ⟨l,xs,i,i.toNat,rfl,rfl,h,by unfold ixN; rw [if_pos i0,if_pos (by omega)],q⟩
theorem atG {xs:List Int} {i:Int} (i0:0≤i) (i1:i < xs.length):atI (xs.map V.int) i=some (.int (xs.getD i.toNat 0)):=jG i0 (by
 have h:i.toNat < xs.length:=by omega
 rw [List.getElem?_map,List.getElem?_eq_getElem h]
 simp [List.getD,h])
theorem yh (n:Nat) (v:V):(List.replicate n [v]).flatten=List.replicate n v:=by
 induction n with
 | zero=>rfl
 | succ n ih=>rw [List.replicate_succ,List.flatten_cons,ih,List.replicate_succ]; rfl
theorem sW {xs:List Int} {n:Nat} {v:Int} (h:∀ x∈xs,0≤x) (hv:0≤v):∀ x∈xs.set n v,0≤x:=fun x hx=>by
 rcases List.mem_or_eq_of_mem_set hx with h1 | h1
 · exact h x h1
 · rw [h1]; exact hv
theorem kL {X:Cx}:zO X (ou X.K):=by
 intro pins s σ H x y v u Q I rx ry h
 obtain ⟨p,xs,i,z,rfl,rfl,hq,he,q⟩:=h
 cases rx
 obtain ⟨t,rfl⟩:=ry
 obtain ⟨its,r,pl,hz⟩:=I.list hq
 obtain ⟨j,h1,h2,h3,h4,h5⟩:=mK he
 obtain ⟨w,ew,rw'⟩:=r.get h2
 have hl:=r.length
 have hn:=gj
 have fin:EP X pins σ Q w s:=⟨z,H,I,rw',q⟩
 by_cases h0:0≤i
 · have hj:i.toNat=j:=by
     rw [seqIndex_of h0 h5] at h1
     exact Option.some.inj h1
   exact wpAny_getItem_list pl.isList h0 (by omega) (by rw [hj]; simpa using ew) fin
 · have hj:(i + (its.toArray.size:Int)).toNat=j:=by
     rw [seqIndex_neg (by omega) h4] at h1
     rw [List.size_toArray,← hl]
     exact Option.some.inj h1
   exact wpAny_getItem_list_neg pl.isList (by omega) (by rw [List.size_toArray] <;> omega) (by omega) (by rw [hj]; simpa using ew) fin
theorem vw {K:PySem.W.Frag} {a p:Addr} {xs:List V} {Q:VK} {g:TG} {tc:TT} {te:TE} {σ0:St} {H0:Hp} (Pv:Nat→List V→St→Hp→Prop) (h0:Pv 0 [] σ0 H0) (hl:∀ i ys σ H,i≤xs.length→Pv i ys σ H→SqL K H a xs)
   (hs:∀ (i:Nat) (x:V) (ys:List V) (σ:St) (H:Hp) (N:List V→St→Hp→Prop),(∀ ys' σ' H',Pv (i + 1) ys' σ' H'→N ys' σ' H')→xs.reverse[i]?=some x→Pv i ys σ H→g x σ H fun σ2 H2=>tc σ2 H2 fun b H3 =>
     if b=true then te σ2 H3 fun y H4=>H4 p=some (.lst ys)∧ys.length < sizeLine∧N (ys ++ [y]) σ2 (upd H4 p (.lst (ys ++ [y]))) else N ys σ2 H3)
   (hd:∀ ys σ H,Pv xs.length ys σ H→Q (.ref p) H):ja (Itv K a xs.length) p Q g tc te σ0 H0:=by
 refine ⟨fun i m ys σ H=>m=xs.length - i∧i≤xs.length∧Pv i ys σ H,⟨xs.length,by simp,Nat.zero_le _,h0⟩,?_⟩
 rintro i m ys σ H ⟨rfl,hi,pv⟩
 have q:=hl i ys σ H hi pv
 by_cases hlt:i < xs.length
 · have hx:xs[xs.length - 1 - i]?=some xs[xs.length - 1 - i]:=List.getElem?_eq_getElem (by omega)
   refine .inr ⟨⟨hlt,xs,_,q,hx⟩,fun x H' y=>?_⟩
   obtain ⟨e,y⟩:=y
   subst e
   exact hs i x ys σ _ (fun ys' σ' H'=>∃ m',m' < xs.length - i∧(m'=xs.length - (i + 1)∧i + 1≤xs.length∧Pv (i + 1) ys' σ' H')) (fun ys' σ' H' pv'=>⟨xs.length - (i + 1),by omega,rfl,hlt,pv'⟩) (by rw [List.getElem?_reverse hlt]; exact y xs q) pv
 · have e:i=xs.length:=by omega
   subst e
   exact .inl ⟨Nat.le_refl _,hd ys σ H pv⟩
end L2
set_option Elab.async false
set_option linter.all false
set_option maxRecDepth 100000
namespace Pb
open L2
def After (par:Int→Int):List Int→List Int→Prop
 | _,[]=>True
 | S,c :: t=>par c∈S∧After par (c :: S) t
section
variable {m:Int} {rs:List Road} {r:Int} {par:Int→Int} {dep:Int→Nat}
theorem After.mono:∀ {l S S':List Int},(∀ x∈S,x∈S')→After par S l→After par S' l
 | [],_,_,_,_=>trivial
 | c :: t,S,S',h,a=>⟨h _ a.1,After.mono (fun x hx=>by
     rcases List.mem_cons.mp hx with e | e
     · exact List.mem_cons.mpr (.inl e)
     · exact List.mem_cons_of_mem _ (h x e)) a.2⟩
theorem After.append:∀ {l1 l2 S:List Int},After par S l1→After par S l2→After par S (l1 ++ l2)
 | [],_,_,_,b=>b
 | c :: t,l2,S,a,b=>⟨a.1,After.append a.2 (b.mono fun x hx=>List.mem_cons_of_mem _ hx)⟩
theorem After.up:∀ {A B S:List Int},After par S (A ++ B)→∀ k∈A,par k∈S∨par k∈A
 | [],_,_,_,k,hk=>by cases hk
 | c :: t,B,S,a,k,hk=>by
   rcases List.mem_cons.mp hk with e | e
   · rw [e]; exact .inl a.1
   · rcases After.up (A:=t) (B:=B) a.2 k e with h | h
     · rcases List.mem_cons.mp h with h | h
       · exact .inr (by rw [h]; exact List.mem_cons_self)
       · exact .inl h
     · exact .inr (List.mem_cons_of_mem _ h)
structure Order (m r:Int) (par:Int→Int) (t:List Int):Prop where
 nd:(r :: t).Nodup
 rng:∀ v∈t,0≤v∧v < m
 all:∀ v,0≤v→v < m→v=r∨v∈t
 af:After par [r] t
theorem Order.ne {t:List Int} (O:Order m r par t) {v:Int} (h:v∈t):v≠r:=fun z=>(List.nodup_cons.mp O.nd).1 (z ▸ h)
theorem k7 (g:Good m rs) (R:Rooted m rs r par dep):∀ (n:Nat) (v:Int) (S:List Int),0≤v→v < m→par v∈S→After par S (fH m rs r par n v)
 | 0,v,S,_,_,h=>⟨h,trivial⟩
 | n + 1,v,S,h0,h1,h=>by
   refine ⟨h,?_⟩
   have:∀ (ks:List Int) (S:List Int),v∈S→(∀ u∈ks,u∈bx m rs (front r par v) v)→After par S (ks.flatMap (fH m rs r par n)):=by
     intro ks
     induction ks with
     | nil=>intro S _ _; exact trivial
     | cons u ks ih =>
       intro S hv hk
       rw [List.flatMap_cons]
       obtain ⟨w1,w2,w3⟩:=(dA g R h0 h1).mp (hk u List.mem_cons_self)
       exact (k7 g R n u S w1.1 w1.2 (by rw [w3]; exact hv)).append (ih S hv fun x hx=>hk x (List.mem_cons_of_mem _ hx))
   exact this _ _ List.mem_cons_self fun u hu=>hu
theorem qK (g:Good m rs) (R:Rooted m rs r par dep) (r0:0≤r) (r1:r < m) (nd:(dj m rs r par dep r).Nodup) (al:∀ v,v∈dj m rs r par dep r↔0≤v∧v < m):∃ t,dj m rs r par dep r=r :: t∧Order m r par t:=by
 have e:=mY g R r0 r1
 refine ⟨_,e,?_⟩
 rw [e] at nd al
 refine ⟨nd,fun v hv=>(al v).mp (List.mem_cons_of_mem _ hv),fun v h0 h1=>List.mem_cons.mp ((al v).mpr ⟨h0,h1⟩),?_⟩
 have:∀ ks:List Int,(∀ u∈ks,u∈bx m rs (front r par r) r)→After par [r] (ks.flatMap (dj m rs r par dep)):=by
   intro ks
   induction ks with
   | nil=>intro _; exact trivial
   | cons u ks ih =>
     intro hk
     rw [List.flatMap_cons]
     obtain ⟨w1,w2,w3⟩:=(dA g R r0 r1).mp (hk u List.mem_cons_self)
     exact (k7 g R _ u [r] w1.1 w1.2 (by rw [w3]; exact List.mem_cons_self)).append (ih fun x hx=>hk x (List.mem_cons_of_mem _ hx))
 exact this _ fun u hu=>hu
def oB (m:Int) (rs:List Road) (r:Int) (par:Int→Int) (held:Int→Int) (con:Int→Int→Int):Nat→Int→Int
 | 0,v=>held v
 | n + 1,v=>held v + ((bx m rs (front r par v) v).map fun c=>con c (oB m rs r par held con n c)).sum
def gat (m:Int) (rs:List Road) (r:Int) (par:Int→Int) (dep:Int→Nat) (held:Int→Int) (con:Int→Int→Int) (v:Int):Int:=oB m rs r par held con (m.toNat - 1 - dep v) v
variable {held:Int→Int} {con:Int→Int→Int}
theorem wg (g:Good m rs) (R:Rooted m rs r par dep) {v:Int} (h0:0≤v) (h1:v < m):gat m rs r par dep held con v=held v + ((bx m rs (front r par v) v).map fun c=>con c (gat m rs r par dep held con c)).sum:=by
 have mk:∀ u,u∈bx m rs (front r par v) v→(0≤u∧u < m)∧u≠r∧par u=v:=fun u=>(dA g R h0 h1).mp
 have du:∀ u∈bx m rs (front r par v) v,dep u=dep v + 1∧dep u + 1≤m.toNat:=fun u hu=>by
   obtain ⟨w1,w2,w3⟩:=mk u hu
   have:=R.pos w1.1 w1.2 w2
   rw [w3] at this
   exact ⟨this,tL R w1.1 w1.2⟩
 unfold gat
 cases e:m.toNat - 1 - dep v with
 | zero =>
   have:bx m rs (front r par v) v=[]:=List.eq_nil_iff_forall_not_mem.mpr fun u hu=>by
     have:=du u hu
     omega
   rw [this]
   simp [oB]
 | succ n =>
   show held v + _=_
   rw [List.map_congr_left fun u hu=>show con u (oB m rs r par held con n u)=con u (oB m rs r par held con (m.toNat - 1 - dep u) u) by rw [show m.toNat - 1 - dep u=n by have:=du u hu; omega]]
theorem wF {l l':List Int} (h:l.Perm l'):l.sum=l'.sum:=by
 induction h with
 | nil=>rfl
 | cons x _ ih=>rw [List.sum_cons,List.sum_cons,ih]
 | swap x y l=>simp only [List.sum_cons]; omega
 | trans _ _ h1 h2=>exact h1.trans h2
def jC (par:Int→Int) (con:Int→Int→Int) (cs:List Int) (v:Int):List Int:=cs.set (par v).toNat (cs.getD (par v).toNat 0 + con v (cs.getD v.toNat 0))
structure Sofar (m:Int) (rs:List Road) (r:Int) (par:Int→Int) (dep:Int→Nat) (held:Int→Int) (con:Int→Int→Int) (t cs:List Int):Prop where
 len:(cs.length:Int)=m
 val:∀ v,0≤v→v < m→cs.getD v.toNat 0=held v + ((t.filter fun c=>decide (par c=v)).map fun c=>con c (gat m rs r par dep held con c)).sum
theorem Sofar.nil {hs:List Int} (h:(hs.length:Int)=m):Sofar m rs r par dep (fun v=>hs.getD v.toNat 0) con [] hs:=⟨h,fun v _ _=>by simp⟩
theorem p6 (g:Good m rs) (R:Rooted m rs r par dep) {t:List Int} (nd:t.Nodup) (tr:∀ x∈t,(0≤x∧x < m)∧x≠r) {v:Int} (h0:0≤v) (h1:v < m) (hk:∀ k,0≤k→k < m→k≠r→par k=v→k∈t):(t.filter fun c=>decide (par c=v)).Perm (bx m rs (front r par v) v):=by
 refine fN (nd.filter _) iu fun x=>?_
 rw [List.mem_filter,dA g R h0 h1,decide_eq_true_eq]
 exact ⟨fun h=>⟨(tr x h.1).1,(tr x h.1).2,h.2⟩,fun h=>⟨hk x h.1.1 h.1.2 h.2.1 h.2.2,h.2.2⟩⟩
theorem Sofar.full (g:Good m rs) (R:Rooted m rs r par dep) {t cs:List Int} (s:Sofar m rs r par dep held con t cs) (nd:t.Nodup) (tr:∀ x∈t,(0≤x∧x < m)∧x≠r) {v:Int} (h0:0≤v) (h1:v < m) (hk:∀ k,0≤k→k < m→k≠r→par k=v→k∈t):cs.getD v.toNat 0=gat m rs r par dep held con v:=by
 rw [s.val v h0 h1,wg g R h0 h1,wF ((p6 g R nd tr h0 h1 hk).map _)]
theorem Sofar.step (g:Good m rs) (R:Rooted m rs r par dep) {t cs:List Int} (s:Sofar m rs r par dep held con t cs) {v:Int} (h0:0≤v) (h1:v < m) (hr:v≠r) (e:cs.getD v.toNat 0=gat m rs r par dep held con v):Sofar m rs r par dep held con (v :: t) (jC par con cs v) where
 len:=by unfold jC; rw [List.length_set]; exact s.len
 val:=fun u u0 u1=>by
   have pu:=(R.up v h0 h1 hr).1
   have sl:=s.len
   have vu:=s.val u u0 u1
   unfold jC
   rw [e]
   by_cases c:par v=u
   · have hl:u.toNat < cs.length:=by omega
     rw [List.filter_cons_of_pos (by simpa using c),List.map_cons,List.sum_cons,c]
     rw [show (cs.set u.toNat (cs.getD u.toNat 0 + con v (gat m rs r par dep held con v))).getD u.toNat 0=cs.getD u.toNat 0 + con v (gat m rs r par dep held con v) by simp [List.getD,hl],vu]
     omega
   · rw [List.filter_cons_of_neg (by simpa using c),← vu]
     have:(par v).toNat≠u.toNat:=by omega
     simp [List.getD,List.getElem?_set_ne this]
theorem Order.places {t:List Int} (O:Order m r par t):∀ x∈t,(0≤x∧x < m)∧x≠r:=fun x hx=>⟨O.rng x hx,O.ne hx⟩
theorem Order.turn (g:Good m rs) (R:Rooted m rs r par dep) {t cs:List Int} (O:Order m r par t) {i:Nat} {v:Int} (s:Sofar m rs r par dep held con (t.drop (t.length - i)) cs) (hv:t.reverse[i]?=some v) :
   ((0≤v∧v < m)∧v≠r)∧cs.getD v.toNat 0=gat m rs r par dep held con v∧Sofar m rs r par dep held con (t.drop (t.length - (i + 1))) (jC par con cs v):=by
 have hi:i < t.length:=by
   have:=(List.getElem?_eq_some_iff.mp hv).1
   rwa [List.length_reverse] at this
 rw [List.getElem?_reverse hi] at hv
 generalize hj:t.length - 1 - i=j at hv
 have ej:t.length - i=j + 1:=by omega
 have ej':t.length - (i + 1)=j:=by omega
 rw [ej] at s
 rw [ej']
 have hjl:j < t.length:=by omega
 have vm:v∈t:=List.mem_of_getElem? hv
 have vp:=O.places v vm
 have ed:t.drop j=v :: t.drop (j + 1):=by
   rw [List.drop_eq_getElem_cons hjl]
   rw [List.getElem?_eq_getElem hjl] at hv
   cases hv
   rfl
 have es:t=t.take j ++ v :: t.drop (j + 1):=by rw [← ed,List.take_append_drop]
 have ndt:=(List.nodup_cons.mp O.nd).2
 have nd2:=ndt
 rw [es] at nd2
 have av:v ∉ t.take j:=fun z=>(List.nodup_append.mp nd2).2.2 v z v List.mem_cons_self rfl
 have e:=s.full g R (ndt.sublist (List.drop_sublist _ _)) (fun x hx=>O.places x (List.mem_of_mem_drop hx)) vp.1.1 vp.1.2 fun k k0 k1 kr pk=>by
   rcases O.all k k0 k1 with z | z
   · exact absurd z kr
   · rw [es] at z
     rcases List.mem_append.mp z with z | z
     · have af:=O.af
       rw [es] at af
       rcases af.up k z with w | w
       · rw [pk] at w
         exact absurd (List.mem_singleton.mp w) vp.2
       · rw [pk] at w
         exact absurd w av
     · rcases List.mem_cons.mp z with z | z
       · subst z
         exact absurd pk (R.ne k0 k1 kr)
       · exact z
 exact ⟨vp,e,by rw [ed]; exact s.step g R vp.1.1 vp.1.2 vp.2 e⟩
def fM (m:Int) (rs:List Road) (r:Int) (par:Int→Int) (dep:Int→Nat) (held:Int→Int) (con:Int→Int→Int):List Int:=(below m.toNat).map (gat m rs r par dep held con)
theorem ko {v:Int} (h0:0≤v) (h1:v < m):(fM m rs r par dep held con).getD v.toNat 0=gat m rs r par dep held con v:=by
 unfold fM
 rw [List.getD,List.getElem?_map,ee (by omega),Int.toNat_of_nonneg h0]
 rfl
theorem Order.done (g:Good m rs) (R:Rooted m rs r par dep) {t cs:List Int} (O:Order m r par t) (s:Sofar m rs r par dep held con t cs):cs=fM m rs r par dep held con:=by
 have sl:=s.len
 refine List.ext_getElem? fun i=>?_
 by_cases h:i < m.toNat
 · have hc:i < cs.length:=by omega
   have e:=s.full g R (List.nodup_cons.mp O.nd).2 O.places (v:=(i:Int)) (by omega) (by omega) fun k k0 k1 kr pk=>(O.all k k0 k1).resolve_left kr
   unfold fM
   rw [List.getElem?_map,ee h]
   rw [Int.toNat_natCast,List.getD,List.getElem?_eq_getElem hc] at e
   rw [List.getElem?_eq_getElem hc]
   exact congrArg some e
 · unfold fM
   rw [List.getElem?_eq_none (by omega),List.getElem?_eq_none (by rw [List.length_map,bL]; omega)]
end
end Pb
set_option Elab.async false
set_option linter.all false
set_option maxRecDepth 100000
namespace Pb
open L2
section
variable {m:Int} {rs:List Road} {r:Int} {par:Int→Int} {dep:Int→Nat} {held:Int→Int}
def tol (rs:List Road) (par:Int→Int) (v:Int):Int:=(bK rs v (par v)).getD 1
end
section
open PySem
end
end Pb
set_option Elab.async false
set_option linter.all false
set_option maxRecDepth 100000
namespace L2
open PySem PySem.Spec PyProof.Rows
end L2
set_option Elab.async false
set_option linter.all false
set_option maxRecDepth 100000
namespace L2
open PySem PySem.Spec PyProof.Rows
def Bj (lo st:Int) (n:Nat):It:=⟨fun i _=>i < n,fun i H x H'=>H'=H∧x=.int (lo + i * st),fun i _=>n≤i⟩
def yw (ta:TA):TI:=fun σ H R=>ta σ H fun vs H1=>∃ i j c:Int,vs=[.int i,.int j,.int c]∧(0≤i∧i≤1000000∧0≤j∧j≤1000000∧0 < c∧c≤1000000)∧R (Bj i c (Builtin.Range.rangeSize i j c).toNat) H1
section
variable {X:Cx} {tg:Expr}
end
end L2
set_option Elab.async false
set_option linter.all false
set_option maxRecDepth 100000
namespace L2
open PySem PySem.Spec PyProof.Rows
theorem wE {K:PySem.W.Frag} {H:Hp} {p:Addr} {xs:List V} {i:Int} {v:V} {Q:VK} (h:SqT K H p xs) (e:atI xs i=some v) (q:Q v H):rT K (.ref p) (.int i) H Q:=⟨p,xs,i,v,rfl,rfl,h,e,q⟩
theorem yT {c:Prop} [Decidable c] {A B:Prop} {P:Int→Prop} (m1 m2:Int) (hB:P m2→B) (hA:P m1→A) (h:∀ m,(m=m1∨m=m2)→P m):if c then A else B:=by
 by_cases z:c
 · rw [if_pos z]; exact hA (h _ (.inl rfl))
 · rw [if_neg z]; exact hB (h _ (.inr rfl))
end L2
namespace Pb
open L2 PySem
theorem qB {α β:Type} {R:α→β→Prop}:∀ (n:Nat) {l₁:List α} {l₂:List β},Paired R l₁ l₂→Paired R (l₁.take n) (l₂.take n)
 | 0,_,_,_=>by rw [List.take_zero,List.take_zero]; exact .nil
 | _ + 1,_,_,.nil=>.nil
 | n + 1,_,_,.cons x xs=>.cons x (qB n xs)
theorem qw {α β:Type} {R:α→β→Prop}:∀ (n:Nat) {l₁:List α} {l₂:List β},Paired R l₁ l₂→Paired R (l₁.drop n) (l₂.drop n)
 | 0,_,_,h=>h
 | _ + 1,_,_,.nil=>.nil
 | n + 1,_,_,.cons x xs=>qw n xs
theorem pB {α β:Type} {R:α→β→Prop} {k₁:List α} {k₂:List β} (h:Paired R k₁ k₂):∀ {l₁:List α} {l₂:List β},Paired R l₁ l₂→Paired R (l₁ ++ k₁) (l₂ ++ k₂)
 | _,_,.nil=>h
 | _,_,.cons x xs=>.cons x (pB h xs)
theorem Ag {α β:Type} {R:α→β→Prop} {ps:List α} {rs:List β} {q:α} {r:β} (n:Nat) (h:Paired R ps rs) (e:R q r):Paired R (ps.take n ++ q :: ps.drop n) (rs.take n ++ r :: rs.drop n):=pB (.cons e (qw n h)) (qB n h)
theorem oY (n:Nat):Labels n (below n):=⟨bL n,dW n,fun v h0 h1=>mem_below.mpr ⟨h0,h1⟩,fun v h=>mem_below.mp h⟩
theorem k6 {n:Nat} {v:Int} (h0:0≤v) (h1:v < n):(below n).getD v.toNat 0=v:=by
 rw [List.getD,ee (by omega),Int.toNat_of_nonneg h0]
 rfl
theorem uc {n:Nat} {rows:List Row} {row:Row} (R:Rows n rows) (k:row.k=(n:Int) + 1) (ok:RowOk row):Rows (n + 1) (rows ++ [row]):=by
 have rl:=R.len
 refine ⟨by rw [List.length_append,rl]; rfl,fun j r hj=>?_⟩
 by_cases hjl:j < rows.length
 · rw [List.getElem?_append_left hjl] at hj
   exact R.ok j r hj
 · have hj2:j=rows.length:=by
     have:=(List.getElem?_eq_some_iff.mp hj).1
     rw [List.length_append] at this
     simp at this
     omega
   rw [hj2,List.getElem?_append_right (Nat.le_refl _),Nat.sub_self] at hj
   cases hj
   exact ⟨by rw [hj2,rl]; exact k,ok⟩
section
variable {m:Int} {rs:List Road} {r:Int} {par:Int→Int} {dep:Int→Nat}
def hnd (rs:List Road) (par:Int→Int) (v x:Int):Int:=if 0≤x then x / (bK rs v (par v)).getD 1 else x * (bK rs (par v) v).getD 1
theorem me (g:Good m rs) (R:Rooted m rs r par dep) {v:Int} (h0:0≤v) (h1:v < m) (hr:v≠r):∃ k,bK rs (par v) v=some k∧2≤k∧k≤1000000:=by
 obtain ⟨x,hx,j⟩:=(R.up v h0 h1 hr).2.1
 obtain ⟨i,hi⟩:=List.getElem?_of_mem hx
 have ok:=g.ok x hx
 have jj:ir x (par v) v:=by
   rcases j with ⟨a,b⟩ | ⟨a,b⟩
   · exact .inr ⟨b,a⟩
   · exact .inl ⟨b,a⟩
 rw [jf g hi jj]
 unfold c9
 by_cases c:x.a=par v∧x.b=v
 · rw [if_pos c]
   exact ⟨_,rfl,ok.t0,ok.t1⟩
 · rw [if_neg c]
   have c2:x.a=v∧x.b=par v:=by
     rcases jj with w | w
     · exact absurd w c
     · exact ⟨w.2,w.1⟩
   rw [if_pos c2]
   exact ⟨_,rfl,ok.u0,ok.u1⟩
theorem qY (i:Nat):below (i + 1)=below i ++ [(i:Int)]:=by
 unfold below
 rw [List.range_succ,List.map_append]
 rfl
end
def df (m:Int) (xs ys:List Int):List Int:=(List.range m.toNat).map fun i=>xs.getD i 0 - ys.getD i 0
theorem tV {m:Int} (h:0≤m) (xs ys:List Int):((df m xs ys).length:Int)=m:=by unfold df; rw [List.length_map,List.length_range]; omega
end Pb
set_option Elab.async false
set_option linter.all false
set_option maxRecDepth 100000
namespace L2
open PySem PySem.Spec PyProof.Rows
theorem pJ {P:Program} {w:World} {A:Around} {l:Addr} (c:Bool) {it:Addr} (hh:A.handled=none) (ne:l≠it) (its:Array Value):Draws P w A it [it,l] its.size (fun i v=>its[i]?=some v) (fun i h=>zAt l c it i h∧se l c h its) where
 live:=fun i h st=>let ⟨o,e,_⟩:=(cL l c P w).obj _ _ _ st.1; ⟨o,e⟩
 frame:=fun i h h' st k=>⟨(cL l c P w).atK _ _ _ _ st.1 fun o e=>k it (by simp) o e,(cL l c P w).srcK _ _ _ st.2 fun o e=>k l (by simp) o e⟩
 item:=fun i s Q E hi st hq=>(cL l c P w).item A s it i its its[i] Q E st.1 st.2 (by simp [hi]) fun h' at' sb=>hq its[i] h' s.toks (by simp [hi]) ⟨at',(cL l c P w).srcK _ _ _ st.2 fun o e=>sb.extBut _ _ ne e⟩ sb
 done:=fun s Q E st hq=>(cL l c P w).fin A s it its.size its Q E hh st.1 st.2 (by simp) fun h' e eb he=>hq h' e eb he
section
variable {P:Program} {w:World} {A:Around} {E:Value→Shared→Prop} {s:Shared} {l:Addr} {ob:Obj} {src:Heap→Array Value→Prop} {at':Addr→Nat→Heap→Prop}
abbrev nX (n:Nat):Obj:={ cls:=.type "enumerate",data:=.fields #[.none,.bool false,.ref n,rawInt 0,.none,.none] }
theorem mF (S:∀ P w,SubF P w l ob src at') (xs:Array Value) :
   Meets (Builtin.«enumerate.__new__» ⟨[.type "enumerate",.ref l],[]⟩) (fun _ R s=>src s.heap xs∧R (.ok (.ret (.ref (s.heap.push ob).objs.size))) { s with heap:=(s.heap.push ob).push (nX s.heap.objs.size) }) :=
 .of_wp fun prog w A R s hyp=>by
   obtain ⟨hp,g,d,tk,os⟩:=s
   obtain ⟨q1,r⟩:=hyp
   have zsub:=sub_enumerate
   have B1:src (Shared.heap ⟨hp,g,d,tk,os⟩) xs:=q1
   wp_walk using ((S prog w).start _ _ _ _ _ B1)
   refine wpAny_stack_any fun st=>?_
   dsimp only
   refine wpAny_pure ?_
   have go:∀ b:Bool,b=true∨b=false:=fun b=>by cases b <;> simp
   split
   · rename_i c _ _ _ _ _
     rcases go (c == Value.type "enumerate") with z | z
     · rw [z]
       wp_walk using ((S prog w).start _ _ _ _ _ B1)
       exact ⟨_,rfl,r⟩
     · rw [z]
       wp_walk using ((S prog w).start _ _ _ _ _ B1)
       exact ⟨_,rfl,r⟩
   · wp_walk using ((S prog w).start _ _ _ _ _ B1)
     exact ⟨_,rfl,r⟩
theorem uq (S:∀ P w,SubF P w l ob src at') {xs:Array Value} {Q:Value→Shared→Prop} (q1:src s.heap xs) (f1:ob.isFreed=false)
   (h:∀ h',IsEnum h' (s.heap.objs.size + 1) s.heap.objs.size 0 .none→at' s.heap.objs.size 0 h'→(∀ c o,s.heap.get? c=some o→h'.get? c=some o)→Q (.ref (s.heap.objs.size + 1)) { s with heap:=h' }) :
   wpAny (model P w) A (call (.type "enumerate") [.ref l]) Q E s:=by
 refine callType_new F.called_enumerate (by decide) (F.typeCall_enumerate_1 _) (F.newCall_enumerate_1 _) (fun obj=>F.args_object_init_2 obj _) F.entry_enumerate_new (mF S xs) ⟨q1,?_⟩
 have n0:(s.heap.push ob).objs.size=s.heap.objs.size + 1:=Heap.size_push ..
 have c2:((s.heap.push ob).push (nX s.heap.objs.size)).get? (s.heap.push ob).objs.size=some (nX s.heap.objs.size):=Heap.get?_push_size _ rfl
 have c1:((s.heap.push ob).push (nX s.heap.objs.size)).get? s.heap.objs.size=some ob:=Heap.get?_push_of_some _ (Heap.get?_push_size _ f1)
 show _∧_
 rw [n0] at c2
 rw [n0]
 exact ⟨⟨_,c2,rfl⟩,h _ c2 ((S P w).first _ _ c1) fun c o e=>Heap.get?_push_of_some _ (Heap.get?_push_of_some _ e)⟩
end
def Ite (K:PySem.W.Frag) (c:Bool) (a:Addr):It :=
 ⟨fun i H=>∃ xs x,SqX K c H a xs∧xs[i]?=some x,
  fun i H v H'=>∃ p x,H p=none∧v=.ref p∧H'=upd H p (.tup [.int i,x])∧∀ xs,SqX K c H a xs→xs[i]?=some x,
  fun i H=>∃ xs,SqX K c H a xs∧xs.length=i⟩
theorem tJ {P:Program} {w:World} {K:PySem.W.Frag} {elts:List Expr} {x1} {tpos:Pos} (c:Bool) (a e it:Addr) (ne:e≠it) (ae:a≠e) (ai:a≠it) :
   Turn P w K (.Tuple elts x1 tpos) (Ite K c a) [e,it] e (fun i h=>(∃ old,IsEnum h e it (i:Nat) old)∧zAt a c it i h) where
 mem:=by simp
 obj:=fun i h t b hb=>by
   obtain ⟨⟨old,t1⟩,t2⟩:=t
   simp only [List.mem_cons,List.mem_nil_iff,or_false] at hb
   rcases hb with rfl | rfl
   · exact ⟨_,t1,fun v z=>by cases z⟩
   · exact (cL a c P w).obj _ _ _ t2
 keep:=fun i h h' t k=>by
   obtain ⟨⟨old,t1⟩,t2⟩:=t
   exact ⟨⟨old,k e (by simp) _ t1⟩,(cL a c P w).atK _ _ _ _ t2 fun o e=>k it (by simp) o e⟩
 item:=fun X e1 e2 e3 hc i pins s σ H E I f t g=>by
   subst e1 e2 e3
   obtain ⟨⟨old,t1⟩,t2⟩:=t
   obtain ⟨xs,x,s1,hx⟩:=g
   obtain ⟨us,r1,q1⟩:=I.sqX s1
   obtain ⟨xu,hxu,rx⟩:=r1.get hx
   have hh:X.A.in1.handled=none:=I.ok.hd hc
   have fz:∀ q∈[e,it],dZ X pins H q:=f
   have W:=WalksT.enumerateD (A:=X.A) (pJ (P:=X.prog) (w:=X.w) (A:=X.A.in1) (l:=a) c (it:=it) hh ai us.toArray) e ne (by simp; exact ⟨ne,ae.symm⟩) (by simp)
   have hil:i < us.toArray.size:=by
     have:=(List.getElem?_eq_some_iff.mp hxu).1
     simpa using this
   refine W.item i s _ _ hil ⟨⟨old,t1⟩,t2,q1⟩ fun T vals h' tk pt le tup mid keep=>?_
   refine ⟨_,rfl,W.go elts x1 tpos i T { s with heap:=h',toks:=tk } _ _ mid fun h2 st2 keep2=>?_⟩
   obtain ⟨tt,xv,px,ev⟩:=pt
   have exv:xv=xu:=by
     have h1:us[i]?=some xv:=by simpa using px
     rw [hxu] at h1
     cases h1
     rfl
   subst exv
   have Tw:T ∉ [e,it]:=W.apart i T h' mid
   have kp:∀ q o,q ∉ [e,it]→s.heap.get? q=some o→h2.get? q=some o:=fun q o hq eo=>keep2 q o hq (keep q o hq eo)
   obtain ⟨ot,ht,hct,nt,hdt⟩:=tup
   have new:h2.get? T=some ot:=keep2 T ot Tw ht
   have Hn:∀ q u,H q=some u→q ∉ [e,it]:=fun q u e hq=>by rw [(fz q hq).1] at e; cases e
   have nH:H T=none:=I.hok.fresh le
   have Tb:∀ q o,s.heap.get? q=some o→q≠T:=fun q o eo=>Nat.ne_of_lt (Nat.lt_of_lt_of_le (Heap.lt_size eo) le)
   have I2:Inv X pins σ H { s with heap:=h2,toks:=tk }:=by
     refine I.step (g':=s.gens) (d':=s.drawn) (t':=tk) (ch:=[e,it]) (fun q hq=>⟨(fz q hq).2.2.2.1,(fz q hq).2.1,(fz q hq).2.2.2.2.1,(fz q hq).2.2.2.2.2⟩) (fun q o _ _ hq e _=>kp q o hq e) (fun q o _ _ hq e _=>⟨o.slots,kp q o hq e⟩) (fun _ _ _ _ n=>n)
       (fun q o hq e=>⟨o,kp q o hq e⟩) (fun _ _ e=>e) (fun _ _ _ e=>e) (fun q ps e=>⟨#[],by rw [e]; simp⟩) (fun m hm=>?_) (fun q u e=>?_) I.bare
     · obtain ⟨o,es,ep,ho,r⟩:=hm
       exact ⟨o,es,ep,kp _ o (fun hq=>(fz _ hq).2.1 rfl) ho,r⟩
     · refine (I.hok q u e).stay (fun q' v hq' e'=>kp q' v ?_ e') (fun _ e'=>e') fun _ _ e'=>e'
       rcases hq' with rfl | hq'
       · exact Hn _ u e
       · exact Hn _ _ hq'
   have I3:Inv X pins σ (upd H T (.tup [.int i,x])) { s with heap:=h2,toks:=tk }:=by
     refine ⟨I2.ok,I2.os,I2.bare,?_,I2.loc,I2.cell,?_,fun n c e=>?_,fun p hp=>?_,fun q u e=>?_,I2.len⟩
     · refine ⟨I2.base.keep,I2.base.slot,fun q o e n hx=>?_,I2.base.there,fun q xs e=>?_,fun q o u e=>?_,fun q ps e=>?_⟩
       · have lt:q < X.s₀.heap.objs.size:=Heap.lt_size e
         rw [ap (Nat.ne_of_lt (Nat.lt_of_lt_of_le lt (Nat.le_trans I.sz le)))]
         exact I2.base.free q o e n hx
       · have e':=I2.base.tups q xs e
         rw [ap (fun z=>by rw [z,nH] at e'; cases e')]
         exact e'
       · have e':=I2.base.frzs q o u e
         rw [ap (fun z=>by rw [z,nH] at e'; cases e')]
         exact e'
       · obtain ⟨more,e'⟩:=I2.base.tbls q ps e
         exact ⟨more,by rw [ap (fun z=>by rw [z,nH] at e'; cases e')]; exact e'⟩
     · rw [ap (Nat.ne_of_lt (Nat.lt_of_lt_of_le I.lt le))]
       exact I2.free
     · obtain ⟨vv,o,ho,_⟩:=I.cell n c e
       rw [ap (Tb _ _ ho)]
       exact I2.freeC n c e
     · obtain ⟨k1,k2,k3⟩:=I.pin p hp
       rw [ap (Tb _ _ k1)]
       exact I2.pin p hp
     · by_cases hq:q=T
       · subst hq
         rw [ah] at e; cases e
         refine ⟨by show 2≤sizeLine; decide,[.int (i:Nat) tt,xv],.cons ⟨tt,rfl⟩ (.cons rx .nil),ot,new,hct,nt,?_⟩
         rw [hdt,ev]
       · rw [ap hq] at e
         refine (I2.hok q u e).stay (fun _ _ _ e'=>e') (fun q' e'=>?_) fun q' xs e'=>?_
         · rw [ap (fun z=>by rw [z,nH] at e'; cases e')]; exact e'
         · rw [ap (fun z=>by rw [z,nH] at e'; cases e')]; exact e'
   refine ⟨.ref T,_,I3,rfl,⟨T,x,nH,rfl,rfl,fun xs' q=>?_⟩,⟨st2.1,st2.2.1⟩,fun q hq=>?_⟩
   · rw [← I.sqX_inj s1 q]; exact hx
   · have hlt:q≠T:=by
       simp only [List.mem_cons,List.mem_nil_iff,or_false] at hq
       rcases hq with rfl | rfl
       · exact Tb _ _ t1
       · exact let ⟨o,e,_⟩:=(cL a c X.prog X.w).obj _ _ _ t2; Tb _ _ e
     rw [ap hlt]
     exact (fz q hq).1
 done:=fun X e1 e2 e3 hc i pins s σ H E I f t g=>by
   subst e1 e2 e3
   obtain ⟨⟨old,t1⟩,t2⟩:=t
   obtain ⟨xs,s1,hend⟩:=g
   obtain ⟨us,r1,q1⟩:=I.sqX s1
   have hh:X.A.in1.handled=none:=I.ok.hd hc
   have fz:∀ q∈[e,it],dZ X pins H q:=f
   have W:=WalksT.enumerateD (A:=X.A) (pJ (P:=X.prog) (w:=X.w) (A:=X.A.in1) (l:=a) c (it:=it) hh ai us.toArray) e ne (by simp; exact ⟨ne,ae.symm⟩) (by simp)
   have ei:i=us.toArray.size:=by
     have:=r1.length
     simp
     omega
   subst ei
   refine W.done s _ _ ⟨⟨old,t1⟩,t2,q1⟩ fun h' tk keep=>⟨rfl,?_⟩
   have kp:∀ q o,q ∉ [e,it]→s.heap.get? q=some o→h'.get? q=some o:=fun q o hq e=>keep q o hq e
   have Hn:∀ q u,H q=some u→q ∉ [e,it]:=fun q u e hq=>by rw [(fz q hq).1] at e; cases e
   refine I.step (g':=s.gens) (d':=s.drawn) (t':=tk) (ch:=[e,it]) (fun q hq=>⟨(fz q hq).2.2.2.1,(fz q hq).2.1,(fz q hq).2.2.2.2.1,(fz q hq).2.2.2.2.2⟩) (fun q o _ _ hq e _=>kp q o hq e) (fun q o _ _ hq e _=>⟨o.slots,kp q o hq e⟩) (fun _ _ _ _ n=>n)
     (fun q o hq e=>⟨o,kp q o hq e⟩) (fun _ _ e=>e) (fun _ _ _ e=>e) (fun q ps e=>⟨#[],by rw [e]; simp⟩) (fun m hm=>?_) (fun q u e=>?_) I.bare
   · obtain ⟨o,es,ep,ho,r⟩:=hm
     exact ⟨o,es,ep,kp _ o (fun hq=>(fz _ hq).2.1 rfl) ho,r⟩
   · refine (I.hok q u e).stay (fun q' v hq' e'=>kp q' v ?_ e') (fun _ e'=>e') fun _ _ e'=>e'
     rcases hq' with rfl | hq'
     · exact Hn _ u e
     · exact Hn _ _ hq'
 self:=fun A i s Q E t q=>by
   obtain ⟨⟨old,t1⟩,t2⟩:=t
   exact wpAny_pyIter_enum t1 q
def rG (K:PySem.W.Frag) (c:Bool) (tl:TE):TI:=fun σ H R=>tl σ H fun x H1=>∃ a,x=.ref a∧(∃ xs,SqX K c H1 a xs)∧R (Ite K c a) H1
section
variable {X:Cx} {e:Expr} {te:TE} {p2 pos:Pos}
theorem yS {elts:List Expr} {x1} {tpos:Pos} (c:Bool) (hg:Gl X "enumerate") (hm:X.mg "enumerate"=none) (he:PE X e te) (h2:starEach [e] X.env=[(false,eval e X.env)]:=by rfl):PI X (.Tuple elts x1 tpos) (.Call (.Name "enumerate" p2) [e] [] pos) (rG X.K c te):=by
 intro pins s σ H R I h
 refine Call_ (fu I hg hm boot_enumerate (PyProof.Rows.callWith_type1 ?_ h2 rfl))
 rw [h2]
 show wpAny _ _ (spliced ((false,eval e X.env) :: backTo pos [])) _ _ s
 refine Calls.spliced_cons (bj (he pins s σ H _ I h) fun u s1 x H1 I1 r1 q1=>Calls.spliced_nil ?_)
 obtain ⟨a,ex,⟨xs,sa⟩,q⟩:=q1
 subst ex
 cases r1
 obtain ⟨us,r1,q1⟩:=I1.sqX sa
 obtain ⟨oa,hoa⟩:=f6 a c _ _ q1
 have la:=Heap.lt_size hoa
 refine uq (cL a c) q1 (jB a c) fun h' w1 w2 w3=>?_
 refine wpAny_pyIter_enum w1 ?_
 refine ⟨_,[s1.heap.objs.size + 1,s1.heap.objs.size],_,_,H1,rfl,I1.kept (t':=s1.toks) w3,tJ c a _ _ (Nat.succ_ne_self _) (Nat.ne_of_lt (Nat.lt_succ_of_lt la)) (Nat.ne_of_lt la),⟨⟨_,w1⟩,w2⟩,fun b hb=>?_,q⟩
 have hle:s1.heap.objs.size≤b:=by
   simp only [List.mem_cons,List.mem_nil_iff,or_false] at hb
   rcases hb with rfl | rfl
   · exact Nat.le_succ _
   · exact Nat.le_refl _
 exact I1.fpOk hle (I1.hok.fresh hle)
end
theorem uX {K:PySem.W.Frag} {c:Bool} {a:Addr} {xs:List V} {g:TG} {tb:TS} {D:Ends} {σ:St} {H:Hp} (Pv:Nat→St→Hp→Prop) (h0:Pv 0 σ H) (hl:∀ i σ H,Pv i σ H→SqX K c H a xs)
   (hs:∀ (i:Nat) (x:V) (σ:St) (H:Hp) (p:Addr) (N:St→Hp→Prop),(∀ σ' H',Pv (i + 1) σ' H'→N σ' H')→xs[i]?=some x→Pv i σ H→H p=none→g (.ref p) σ (upd H p (.tup [.int i,x])) fun σ2 H2=>tb { D with nx:=N,ct:=N,bk:=D.nx } σ2 H2)
   (hd:∀ σ H,Pv xs.length σ H→D.nx σ H):fZ (Ite K c a) D g tb σ H:=by
 refine ⟨fun i m σ H=>m=xs.length - i∧i≤xs.length∧Pv i σ H,⟨_,rfl,Nat.zero_le _,h0⟩,?_⟩
 rintro i m σ H ⟨rfl,hi,p⟩
 have q1:=hl i σ H p
 by_cases hlt:i < xs.length
 · refine .inr ⟨⟨xs,xs[i],q1,List.getElem?_eq_getElem hlt⟩,fun σ' H'=>∃ m',m' < xs.length - i∧(m'=xs.length - (i + 1)∧i + 1≤xs.length∧Pv (i + 1) σ' H'),fun σ' H' z=>z,fun x H' y=>?_⟩
   obtain ⟨p',x',hp,rfl,rfl,e1⟩:=y
   exact hs i x' σ H p' _ (fun σ' H' p'=>⟨xs.length - (i + 1),by omega,rfl,hlt,p'⟩) (e1 xs q1) p hp
 · have e:i=xs.length:=by omega
   subst e
   exact .inl ⟨⟨xs,q1,rfl⟩,hd σ H p⟩
end L2
set_option Elab.async false
set_option linter.all false
set_option maxRecDepth 100000
namespace Pb
open L2 PySem
abbrev Stp:=Int × Int × Int
def vSt (s:Stp):List V:=[.int s.1,.int s.2.1,.int s.2.2]
abbrev StepsAt (H:Hp):List Addr→List Stp→Prop:=Paired fun q s=>H q=some (.tup (vSt s))
theorem StepsAt.same {H H':Hp} {qs:List Addr} {ss:List Stp} (e:Same H H') (h:StepsAt H qs ss):StepsAt H' qs ss:=Paired.imp' (fun q v x=>e q _ x) h
theorem StepsAt.get {H:Hp}:∀ {ps:List Addr} {vs:List Stp} {i:Nat} {x:V},StepsAt H ps vs→(ps.map V.ref)[i]?=some x→∃ p v,x=.ref p∧ps[i]?=some p∧vs[i]?=some v∧H p=some (.tup (vSt v))
 | _,_,i,x,.nil,e=>by simp at e
 | _,_,0,x,.cons (a:=p) (b:=r) h hs,e=>⟨p,r,by simpa using e.symm,by simp,by simp,h⟩
 | a :: l1,_,i + 1,x,.cons h hs,e=>by
   have e':(List.map V.ref l1)[i]?=some x:=by simpa using e
   obtain ⟨p,r,h1,h2,h3,h4⟩:=StepsAt.get hs e'
   exact ⟨p,r,h1,by simpa using h2,by simpa using h3,h4⟩
theorem jN {α β:Type} {R:α→β→Prop} {a:α} {b:β} (h:R a b):∀ {l₁:List α} {l₂:List β},Paired R l₁ l₂→Paired R (l₁ ++ [a]) (l₂ ++ [b])
 | _,_,.nil=>.cons h .nil
 | _,_,.cons x xs=>.cons x (jN h xs)
theorem pf {α β:Type} {R:α→β→Prop}:∀ {ps:List α} {vs:List β} {i:Nat} {x:α},Paired R ps vs→ps[i]?=some x→∃ v,vs[i]?=some v∧R x v
 | _,_,i,x,.nil,e=>by simp at e
 | _,_,0,x,.cons (a:=p) (b:=r) h hs,e=>by
   have:p=x:=by simpa using e
   subst this
   exact ⟨r,by simp,h⟩
 | a :: l1,_,i + 1,x,.cons h hs,e=>by
   have e':l1[i]?=some x:=by simpa using e
   obtain ⟨v,h1,h2⟩:=pf hs e'
   exact ⟨v,by simpa using h1,h2⟩
abbrev t7 (H:Hp):List Addr→List (List Int)→Prop:=Paired fun q xs=>H q=some (.tup (xs.map V.int))
def ft (rs:List Road) (a b:Int):Int:=(bK rs a b).getD 1
def ip (rs:List Road) (xs:List Int) (s:Stp):List Int :=
 (xs.set s.1.toNat (xs.getD s.1.toNat 0 - s.2.2 * ft rs s.1 s.2.1)).set s.2.1.toNat ((xs.set s.1.toNat (xs.getD s.1.toNat 0 - s.2.2 * ft rs s.1 s.2.1)).getD s.2.1.toNat 0 + s.2.2)
theorem t6 (rs:List Road) (xs:List Int) (s:Stp):(ip rs xs s).length=xs.length:=by unfold ip; rw [List.length_set,List.length_set]
def fq (m:Int) (rs:List Road) (s:Stp):Bool:=decide (0≤s.1) && decide (s.1 < m) && decide (s.2.1∈dh m rs s.1) && decide (1≤s.2.2)
def fV (m:Int) (rs:List Road) (xs:List Int) (s:Stp):Bool:=fq m rs s && decide (s.2.2 * ft rs s.1 s.2.1≤xs.getD s.1.toNat 0)
def da (rs:List Road) (xs:List Int) (ss:List Stp) (i:Nat):List Int:=(ss.take i).foldl (ip rs) xs
def gH (rs:List Road) (xs:List Int) (ss:List Stp):List (List Int):=(List.range (ss.length + 1)).map (da rs xs ss)
def jw (m:Int) (rs:List Road) (xs:List Int) (ss:List Stp):Prop:=∀ i s,ss[i]?=some s→fV m rs (da rs xs ss i) s=true
theorem pL (rs:List Road) (xs:List Int) (ss:List Stp) (i:Nat):(da rs xs ss i).length=xs.length:=by
 unfold da
 have:∀ (l:List Stp) (ys:List Int),(l.foldl (ip rs) ys).length=ys.length:=by
   intro l
   induction l with
   | nil=>intro ys; rfl
   | cons s l ih=>intro ys; rw [List.foldl_cons,ih,t6]
 exact this _ _
theorem sE {rs:List Road} {xs:List Int} {ss:List Stp} {i:Nat} {s:Stp} (h:ss[i]?=some s):da rs xs ss (i + 1)=ip rs (da rs xs ss i) s:=by
 unfold da
 rw [List.take_succ,h,List.foldl_append]
 rfl
theorem iY (rs:List Road) (xs:List Int) (ss:List Stp):(gH rs xs ss).length=ss.length + 1:=by unfold gH; rw [List.length_map,List.length_range]
theorem gu {rs:List Road} {xs:List Int} {ss:List Stp} {i:Nat} (h:i≤ss.length):(gH rs xs ss)[i]?=some (da rs xs ss i):=by
 unfold gH
 rw [List.getElem?_map,List.getElem?_range (by omega)]
 rfl
theorem ub (rs:List Road) (xs:List Int) (ss:List Stp):da rs xs ss 0=xs:=by unfold da; rw [List.take_zero]; rfl
theorem ig {m:Int} {rs:List Road} {s:Stp} (h:fq m rs s=true):(0≤s.1∧s.1 < m)∧s.2.1∈dh m rs s.1∧1≤s.2.2:=by
 unfold fq at h
 rw [Bool.and_eq_true,Bool.and_eq_true,Bool.and_eq_true] at h
 exact ⟨⟨of_decide_eq_true h.1.1.1,of_decide_eq_true h.1.1.2⟩,of_decide_eq_true h.1.2,of_decide_eq_true h.2⟩
theorem wy {m:Int} {rs:List Road} (g:Good m rs) {a b:Int} (h:Adj rs a b):∃ k,bK rs a b=some k∧2≤k∧k≤1000000:=by
 obtain ⟨x,hx,j⟩:=h
 obtain ⟨i,hi⟩:=List.getElem?_of_mem hx
 have ok:=g.ok x hx
 have jj:ir x a b:=j
 rw [jf g hi jj]
 unfold c9
 by_cases c:x.a=a∧x.b=b
 · rw [if_pos c]
   exact ⟨_,rfl,ok.t0,ok.t1⟩
 · rw [if_neg c]
   have c2:x.a=b∧x.b=a:=by
     rcases jj with w | w
     · exact absurd w c
     · exact ⟨w.2,w.1⟩
   rw [if_pos c2]
   exact ⟨_,rfl,ok.u0,ok.u1⟩
theorem mZ {m:Int} {rs:List Road} (g:Good m rs) {s:Stp} (h:fq m rs s=true):∃ k,bK rs s.1 s.2.1=some k∧ft rs s.1 s.2.1=k∧(2≤k∧k≤1000000)∧(0≤s.2.1∧s.2.1 < m):=by
 obtain ⟨h1,h2,h3⟩:=ig h
 have ad:=(kh g).mp h2
 obtain ⟨k,e,r⟩:=wy g ad
 exact ⟨k,e,by unfold ft; rw [e]; rfl,r,(g.adj ad).2.1⟩
def mM (xs:List Int):PyData:=.tuple (xs.map PyData.int)
theorem oP {K:PySem.W.Frag} {H:Hp} {q:Addr} {xs:List Int} (h:H q=some (.tup (xs.map V.int))):Deep K H (.ref q) (mM xs):=.tup (SqT.of h) (jk xs)
theorem t9 (xs:List Int):(mM xs).depth≤2:=by
 unfold mM
 have:=iG xs
 simp only [PyData.depth]
 omega
end Pb
namespace L2
open PySem PySem.Spec PyProof.Rows
def yk (i j k:Nat) (ta:TA):TS:=fun D σ H=>ta σ H fun vs H1=>∃ v w z,vs=[v,w,z]∧D.nx (((σ.set i (some v)).set j (some w)).set k (some z)) H1
end L2
set_option Elab.async false
set_option linter.all false
set_option maxRecDepth 100000
namespace Pb
open L2
section
variable {m:Int} {rs:List Road} {r:Int} {par:Int→Int} {dep:Int→Nat} {held held':Int→Int} {con:Int→Int→Int}
end
end Pb
set_option Elab.async false
set_option linter.all false
set_option maxRecDepth 100000
namespace L2
open PySem PySem.Spec PyProof.Rows
end L2
namespace Pb
open L2 PySem
end Pb
set_option Elab.async false
set_option linter.all false
set_option maxRecDepth 100000
namespace Pb
open L2 PySem
section
variable {m:Int} {rs:List Road}
end
def AtX (c:Bool) (H:Hp) (a:Addr) (xs:List V):Prop:=H a=some (if c then .lst xs else .tup xs)
theorem AtX.sq {K:PySem.W.Frag} {c:Bool} {H:Hp} {a:Addr} {xs:List V} (h:AtX c H a xs):SqX K c H a xs:=by
 cases c
 · exact SqT.of h
 · exact SqL.of h
end Pb
set_option Elab.async false
set_option linter.all false
set_option maxRecDepth 100000
namespace L2
open PySem PySem.Spec PyProof.Rows
section
variable {X:Cx} {i o:Expr} {ty td:TE}
def yF (ty td:TE):TE:=fun σ H Q=>ty σ H fun y H1=>td σ H1 fun x H2=>∃ a,x=.ref a∧((∃ o,DGet H2 a y o∧Q (.bl o.isSome) H2)∨(y=.non∧(∃ kvs,H2 a=some (.dK kvs))∧Q (.bl false) H2))
end
end L2
set_option Elab.async false
set_option linter.all false
set_option maxRecDepth 100000
namespace Pb
open L2 PySem
section
variable {m:Int} {rs:List Road} {r b:Int} {par:Int→Int} {dep:Int→Nat}
end
end Pb
namespace L2
theorem bo {A B:TS} {D:Ends} {σ:St} {H:Hp} (h:∀ N:St→Hp→Prop,(∀ σ' H',B D σ' H'→N σ' H')→A { D with nx:=N } σ H):rR A B D σ H:=h (B D) fun _ _ z=>z
end L2
set_option Elab.async false
set_option linter.all false
set_option maxRecDepth 100000
namespace L2
open PySem
theorem jm {K:PySem.W.Frag} {a:Addr} {xs:List V} {g:TG} {tb:TS} {D:Ends} {σ:St} {H:Hp} (Pv:Nat→St→Hp→Prop) (h0:Pv 0 σ H) (hl:∀ i σ H,i≤xs.length→Pv i σ H→SqL K H a xs)
   (hs:∀ (i:Nat) (x:V) (σ:St) (H:Hp) (N B:St→Hp→Prop),(∀ σ H,(g x σ H fun σ2 H2=>tb { D with nx:=N,ct:=N,bk:=D.nx } σ2 H2)→B σ H)→(∀ σ' H',Pv (i + 1) σ' H'→N σ' H')→xs[i]?=some x→Pv i σ H→B σ H)
   (hd:∀ (B:St→Hp→Prop) σ H,(∀ σ H,D.nx σ H→B σ H)→Pv xs.length σ H→B σ H):fZ (Itl K a) D g tb σ H :=
 jb Pv h0 hl (fun i x σ H N hN hx p=>hs i x σ H N (fun σ H=>g x σ H fun σ2 H2=>tb { D with nx:=N,ct:=N,bk:=D.nx } σ2 H2) (fun _ _ z=>z) hN hx p) fun σ H p=>hd (fun σ H=>D.nx σ H) σ H (fun _ _ z=>z) p
theorem lW {lo:Int} {n:Nat} {g:TG} {tb:TS} {D:Ends} {σ:St} {H:Hp} (Pv:Nat→St→Hp→Prop) (h0:Pv 0 σ H)
   (hs:∀ (i:Nat) (σ:St) (H:Hp) (N B:St→Hp→Prop),(∀ σ H,(g (.int (lo + i)) σ H fun σ2 H2=>tb { D with nx:=N,ct:=N,bk:=D.nx } σ2 H2)→B σ H)→(∀ σ' H',Pv (i + 1) σ' H'→N σ' H')→i < n→Pv i σ H→B σ H)
   (hd:∀ (B:St→Hp→Prop) σ H,(∀ σ H,D.nx σ H→B σ H)→Pv n σ H→B σ H):fZ (Itr lo n) D g tb σ H :=
 fX Pv h0 (fun i σ H N hN hi p=>hs i σ H N (fun σ H=>g (.int (lo + i)) σ H fun σ2 H2=>tb { D with nx:=N,ct:=N,bk:=D.nx } σ2 H2) (fun _ _ z=>z) hN hi p) fun σ H p=>hd (fun σ H=>D.nx σ H) σ H (fun _ _ z=>z) p
theorem qH {c:TT} {tb:TS} {D:Ends} {σ:St} {H:Hp} (W:Nat→St→Hp→Prop) (n0:Nat) (h0:W n0 σ H)
   (hs:∀ (n:Nat) (σ:St) (H:Hp) (N:St→Hp→Prop) (B:Nat→St→Hp→Prop),(∀ n σ H,(c σ H fun b H1=>if b=true then ∃ N:St→Hp→Prop,(∀ σ' H',N σ' H'→∃ m',m' < n∧W m' σ' H')∧tb { D with nx:=N,ct:=N,bk:=D.nx } σ H1 else D.nx σ H1)→B n σ H)→(∀ n' σ' H',n' < n→W n' σ' H'→N σ' H')→(∀ σ' H',N σ' H'→∃ m',m' < n∧W m' σ' H')→W n σ H→B n σ H):oC c tb D σ H :=
 qy W n0 h0 fun n σ H N hN hN2 w=>hs n σ H N (fun n σ H=>c σ H fun b H1=>if b=true then ∃ N:St→Hp→Prop,(∀ σ' H',N σ' H'→∃ m',m' < n∧W m' σ' H')∧tb { D with nx:=N,ct:=N,bk:=D.nx } σ H1 else D.nx σ H1) (fun _ _ _ z=>z) hN hN2 w
theorem ex6 {α0:Sort _} {α1:Sort _} {α2:Sort _} {α3:Sort _} {α4:Sort _} {α5:Sort _} {P:α0→α1→α2→α3→α4→α5→Prop} (a0:α0) (a1:α1) (a2:α2) (a3:α3) (a4:α4) (a5:α5) (h:P a0 a1 a2 a3 a4 a5):∃ a0 a1 a2 a3 a4 a5,P a0 a1 a2 a3 a4 a5:=⟨a0,a1,a2,a3,a4,a5,h⟩
theorem ex7 {α0:Sort _} {α1:Sort _} {α2:Sort _} {α3:Sort _} {α4:Sort _} {α5:Sort _} {α6:Sort _} {P:α0→α1→α2→α3→α4→α5→α6→Prop} (a0:α0) (a1:α1) (a2:α2) (a3:α3) (a4:α4) (a5:α5) (a6:α6) (h:P a0 a1 a2 a3 a4 a5 a6):∃ a0 a1 a2 a3 a4 a5 a6,P a0 a1 a2 a3 a4 a5 a6:=⟨a0,a1,a2,a3,a4,a5,a6,h⟩
theorem ex8 {α0:Sort _} {α1:Sort _} {α2:Sort _} {α3:Sort _} {α4:Sort _} {α5:Sort _} {α6:Sort _} {α7:Sort _} {P:α0→α1→α2→α3→α4→α5→α6→α7→Prop} (a0:α0) (a1:α1) (a2:α2) (a3:α3) (a4:α4) (a5:α5) (a6:α6) (a7:α7) (h:P a0 a1 a2 a3 a4 a5 a6 a7):∃ a0 a1 a2 a3 a4 a5 a6 a7,P a0 a1 a2 a3 a4 a5 a6 a7:=⟨a0,a1,a2,a3,a4,a5,a6,a7,h⟩
theorem Bf {α0:Sort _} {α1:Sort _} {α2:Sort _} {α3:Sort _} {α4:Sort _} {α5:Sort _} {α6:Sort _} {α7:Sort _} {α8:Sort _} {α9:Sort _} {α10:Sort _} {α11:Sort _} {P:α0→α1→α2→α3→α4→α5→α6→α7→α8→α9→α10→α11→Prop} (a0:α0) (a1:α1) (a2:α2) (a3:α3) (a4:α4) (a5:α5) (a6:α6) (a7:α7) (a8:α8) (a9:α9) (a10:α10) (a11:α11) (h:P a0 a1 a2 a3 a4 a5 a6 a7 a8 a9 a10 a11):∃ a0 a1 a2 a3 a4 a5 a6 a7 a8 a9 a10 a11,P a0 a1 a2 a3 a4 a5 a6 a7 a8 a9 a10 a11:=⟨a0,a1,a2,a3,a4,a5,a6,a7,a8,a9,a10,a11,h⟩
theorem an4 {p0 p1 p2 p3:Prop} (h0:p0) (h1:p1) (h2:p2) (h3:p3):p0∧p1∧p2∧p3:=⟨h0,h1,h2,h3⟩
theorem an5 {p0 p1 p2 p3 p4:Prop} (h0:p0) (h1:p1) (h2:p2) (h3:p3) (h4:p4):p0∧p1∧p2∧p3∧p4:=⟨h0,h1,h2,h3,h4⟩
theorem an6 {p0 p1 p2 p3 p4 p5:Prop} (h0:p0) (h1:p1) (h2:p2) (h3:p3) (h4:p4) (h5:p5):p0∧p1∧p2∧p3∧p4∧p5:=⟨h0,h1,h2,h3,h4,h5⟩
end L2
set_option Elab.async false
set_option linter.all false
set_option maxRecDepth 100000
namespace Pb
open L2 PySem
section
variable {m:Int} {rs:List Road} {r:Int} {par:Int→Int} {dep:Int→Nat}
variable {para parb parc:Int→Int} {depa depb depc:Int→Nat} {a b c:Int}
end
section
variable {m:Int} {rs:List Road} {r b:Int} {par:Int→Int} {dep:Int→Nat}
end
end Pb
set_option Elab.async false
set_option linter.all false
set_option maxRecDepth 100000
namespace Pb
open L2 PySem
section
variable {m:Int} {rs:List Road} {r b:Int} {par:Int→Int} {dep:Int→Nat}
end
end Pb
set_option Elab.async false
set_option linter.all false
namespace L2
open PySem
end L2
namespace Pb
open PySem L2
end Pb
set_option Elab.async false
set_option linter.all false
set_option maxRecDepth 100000
set_option exponentiation.threshold 5000
namespace Pb
open L2 PySem
section
variable {m:Int} {rs:List Road} {r:Int} {par:Int→Int} {dep:Int→Nat}
variable {op:Int→Int→Int} {held:Int→Int} {con:Int→Int→Int}
end
end Pb
set_option Elab.async false
set_option linter.all false
set_option maxRecDepth 100000
namespace L2
open PySem PySem.Spec PyProof.Rows
section
variable {X:Cx}
end
end L2
namespace Pb
end Pb
set_option Elab.async false
set_option linter.all false
set_option maxRecDepth 100000
namespace L2
open PySem PySem.Spec PyProof.Rows
theorem b6 {l:List Addr} (h:l.Nodup) (i j:Nat) {a b:Addr} (hi:l[i]?=some a) (hj:l[j]?=some b) (ij:i≠j):a≠b:=fun z=>by
 subst z
 obtain ⟨h1,e1⟩:=List.getElem?_eq_some_iff.mp hi
 obtain ⟨h2,e2⟩:=List.getElem?_eq_some_iff.mp hj
 rcases Nat.lt_or_gt_of_ne ij with q | q
 · exact List.pairwise_iff_getElem.mp h i j h1 h2 q (e1.trans e2.symm)
 · exact List.pairwise_iff_getElem.mp h j i h2 h1 q (e2.trans e1.symm)
inductive ClsAll (K:PySem.W.Frag) (C:Addr):List V→List Bool→Prop
 | nil:ClsAll K C [] []
 | cons {cv:V} {b:Bool} {cvs:List V} {bs:List Bool} (h:rM K C cv b) (t:ClsAll K C cvs bs):ClsAll K C (cv :: cvs) (b :: bs)
theorem qC {K:PySem.W.Frag} {C:Addr} (c:XCls K C):∀ {cvs:List V} {us:List Value} {bs:List Bool},Vals cvs us→ClsAll K C cvs bs→PySem.W.kitAny K (.ref C) us=some (bs.any id)
 | _,_,_,.nil,.nil=>rfl
 | _,_,_,.cons r t,.cons (b:=true) h hs=>by
   unfold PySem.W.kitAny
   rw [mD c r h]
   rfl
 | _,_,_,.cons r t,.cons (b:=false) h hs=>by
   unfold PySem.W.kitAny
   rw [mD c r h]
   have h2:=qC c t hs
   exact h2
def yt (K:PySem.W.Frag):List V→Hp→VK→Prop:=fun xs H Q=>∃ ea C od tp cvs bs,xs=[.ref ea,.ref tp]∧H ea=some (ExO ea (.ref C) od)∧lw H od∧XCls K C∧H tp=some (.tup cvs)∧ClsAll K C cvs bs∧Q (.bl (bs.any id)) H
section
variable {X:Cx}
theorem um:dz X (.builtin "isinstance") (yt X.K):=by
 intro pins s σ H xs us Q I r h
 obtain ⟨ea,C,od,tp,cvs,bs,rfl,he,hd,c,ht,hk,q⟩:=h
 obtain ⟨u,cu,rfl,ru,rc⟩:=om r
 cases (show u=Value.ref ea from ru)
 cases (show cu=Value.ref tp from rc)
 obtain ⟨ox,oo,ia⟩:=pM I he hd
 obtain ⟨its,rv,⟨⟨oc,odd,dat,sl⟩,e,e1,n,e2⟩,_⟩:=I.tuple (SqT.of ht)
 cases e1
 cases e2
 exact PySem.W.kia_tup (oK (x:=ea) (ox:=ox) (od:=oo) c) I.kIn ia e (qC c rv hk) (fun z=>nomatch z) fun tk=>⟨.bl (bs.any id),H,I.tok tk,rfl,q⟩
theorem yK {CX:CXT} {i:Nat} {x:Str} {e:Expr} {ex:XK→TE} {pos pos':Pos} (hN:X.N.Nodup) (hi:X.N[i]?=some x) (hx:Loc X.env.scope x) (he:PEx CX X e ex) (hs:swapsWith e (some (.Name x pos')) pos.line X.env=pure false:=by rfl) (hf:X.fn x=true∨X.env.scope.names.lookup x=some .local:=by first | exact .inl rfl | exact .inr rfl | assumption) :
   PSx CX X (.Assign [.Name x pos'] e pos) (fun EK D σ H=>ex (EK σ) σ H fun y H1=>D.nx (σ.set i (some y)) H1):=by
 intro EK pins s σ H D I h
 refine wpAny_Assign_Name (wpAny_mono (he (EK σ) pins s σ H _ I h) (fun v s1 ⟨y,H1,I1,r1,q1⟩=>?_) fun e s' z=>⟨σ,z⟩) hs
 exact gi I1 hN hi hx r1 (fun s2 I2=>⟨_,H1,I2,q1⟩) hf
end
end L2
set_option Elab.async false
set_option linter.all false
set_option maxRecDepth 100000
namespace L2
open PySem PySem.Spec PyProof.Rows
section
variable {P:Program} {w:World} {A:Around} {R:Result→Shared→Prop} {I S:Addr} {fp wr:List Addr} {n:Nat} {Pv:Nat→Value→Prop} {St:Nat→Heap→Prop} {bt:Nat→Nat→Bool} {kw:List (Str × Value)}
end
section
variable {X:Cx} {x:Str} {p pos kpos:Pos} {e de:Expr} {t tk:TA}
def yq (K:PySem.W.Frag) (t tk:TA):TE:=fun σ H Q=>t σ H fun vs H1=>tk σ H1 fun zs H2=>∃ (q:Addr) (ns:List Int) (d:V),vs=[.ref q]∧zs=[d]∧SqL K H2 q (ns.map V.int)∧ns≠[]∧∀ y,y∈ns→(∀ x∈ns,y≤x)→Q (.int y) H2
def yy (t:TE):TE:=fun σ H Q=>t σ H fun x H1=>∃ b,x=.bl b∧Q (.bl (b != true)) H1
end
end L2
set_option Elab.async false
set_option linter.all false
set_option maxRecDepth 100000
namespace Pb
open L2 PySem
section
variable {m:Int} {rs:List Road} {r:Int} {par:Int→Int} {dep:Int→Nat}
variable {ch:Int→Option Int} {w:Int} {cn:Int→Int}
end
end Pb
set_option Elab.async false
set_option linter.all false
set_option maxRecDepth 100000
namespace L2
open PySem PySem.Spec PyProof.Rows PySem.W
section
variable {n:Nat}
variable (hn:0 < n)
include hn
end
section
variable {prog:Program} {w:World} {A:Around} {E:Value→Shared→Prop} {s:Shared}
end
end L2
set_option Elab.async false
set_option linter.all false
set_option maxRecDepth 100000
namespace L2
open PySem PySem.Spec PyProof.Rows PySem.W Pb
section
variable {prog:Program} {w:World} {A:Around} {E:Value→Shared→Prop} {s:Shared} {it d:Addr} {i ep:Nat} {es:Array DictEntry}
end
section
variable {prog:Program} {w:World} {A:Around} {E:Value→Shared→Prop} {s:Shared} {fin:Bool} {C:Bool→Shared→Prop}
end
section
variable {prog:Program} {w:World} {A:Around} {E:Value→Shared→Prop} {s:Shared}
end
section
variable {X:Cx}
end
end L2
set_option Elab.async false
set_option linter.all false
set_option maxRecDepth 100000
namespace L2
end L2
namespace Pb
open L2 PySem
section
variable {m:Int} {rs:List Road} {r:Int} {par:Int→Int} {dep:Int→Nat}
end
def ik (m:Int) (rs:List Road) (PAR:Int→Int→Int) (DEP:Int→Int→Nat) (xs ys:List Int) (i:Nat):List Int:=(below i).map fun r=>gat m rs r (PAR r) (DEP r) (fun v=>(df m xs ys).getD v.toNat 0) (hnd rs (PAR r)) r
theorem yf {m:Int} {rs:List Road} {PAR:Int→Int→Int} {DEP:Int→Int→Nat} {xs ys:List Int} {i:Nat}:(ik m rs PAR DEP xs ys i).length=i:=by unfold ik; rw [List.length_map,bL]
section
end
end Pb
set_option Elab.async false
set_option linter.all false
set_option maxRecDepth 100000
namespace L2
open PySem PySem.Spec PyProof.Rows
def tf (tk tv:TE):TE:=fun σ H Q=>∀ p,H p=none→gU [(tk,tv)] σ (upd H p (.dT [])) fun ps H2=>H2 p=some (.dT [])∧∃ (k:List Key) (b:Addr) (y:V),ps=[(.ref b,y)]∧H2 b=some (.tup (k.map kV))∧Q (.ref p) (upd H2 p (.dT [(k,y)]))
end L2
set_option Elab.async false
set_option linter.all false
set_option maxRecDepth 100000
namespace Pb
open L2 PySem
end Pb
namespace Pb
open L2 PySem
section
variable {m:Int} {rs:List Road} {xs:List Int}
variable {r:Int} {par:Int→Int} {dep:Int→Nat}
end
end Pb
set_option Elab.async false
set_option linter.all false
set_option maxRecDepth 100000
namespace L2
open PySem PySem.Spec PyProof.Rows Pb
section
variable {X:Cx}
end
end L2
set_option Elab.async false
set_option linter.all false
set_option maxRecDepth 100000
namespace L2
open PySem PySem.Spec PyProof.Rows
end L2
namespace Pb
end Pb
namespace L2
open PySem Pb
end L2
namespace L2
open PySem
end L2
namespace L2
open PySem
end L2
namespace L2
open PySem PySem.Spec PyProof.Rows Pb
end L2
namespace L2
open PySem
end L2
set_option Elab.async false
set_option linter.all false
set_option maxRecDepth 100000
namespace Pb
open L2 PySem
section
variable {m:Int} {rs:List Road} {r:Int} {par:Int→Int} {dep:Int→Nat}
abbrev stg (m:Int) (rs:List Road) (r:Int) (par:Int→Int) (dep:Int→Nat) (ys z:List Int) (v:Int):Int:=gat m rs r par dep (fun v=>(df m z ys).getD v.toNat 0) (hnd rs par) v
end
section
variable {m:Int} {rs:List Road} {xs:List Int}
end
end Pb
set_option Elab.async false
set_option linter.all false
set_option maxRecDepth 100000
namespace L2
open PySem PySem.Spec PyProof.Rows PySem.W Pb
section
variable {X:Cx} {pins:List (Addr × Obj)} {σ:St} {H:Hp} {s:Shared}
end
def Itd (d:Addr) (o:Obj) (kvs:List (List Key × V)):It :=
 ⟨fun i H=>H d=some (.frz o (.dT kvs))∧i < kvs.length,fun i H x H'=>H'=H∧∃ (q:Addr) (k:List Key) (v:V),x=.ref q∧kvs[i]?=some (k,v)∧H q=some (.tup (k.map kV)),fun i H=>H d=some (.frz o (.dT kvs))∧i=kvs.length⟩
def yn (tl:TE) (g:TG) (tb:TS):TS:=fun D σ H=>tl σ H fun x H1=>∃ (d:Addr) (kvs:List (List Key × V)),x=.ref d∧H1 d=some (.dT kvs) ∧
 ∀ o,fZ (Itd d o kvs) { D with nx:=fun σ' H'=>H' d=some (.frz o (.dT kvs))∧D.nx σ' (upd H' d (.dT kvs)) } g tb σ (upd H1 d (.frz o (.dT kvs)))
section
variable {X:Cx} {tg:Expr}
end
end L2
set_option Elab.async false
set_option linter.all false
set_option maxRecDepth 100000
namespace Pb
open L2 PySem
section
variable {α β:Type}
end
section
variable {m:Int} {rs:List Road} {r:Int} {par:Int→Int} {dep:Int→Nat}
end
end Pb
namespace Pb
open L2 PySem
section
variable {m:Int} {rs:List Road} {r:Int} {par:Int→Int} {dep:Int→Nat} {to:Bool}
end
end Pb
namespace Pb
open L2 PySem
end Pb
namespace Pb
open L2 PySem
end Pb
set_option Elab.async false
set_option linter.all false
set_option maxRecDepth 100000
namespace L2
open PySem PySem.Spec PyProof.Rows
section
variable {X:Cx} {cx:Str} {Nc:List Str} {own:Nat} {js:List Nat} {scope:Scope} {cl:List (Str × Addr)}
end
section
variable {X:Cx} {cx:Str} {Nc:List Str} {own:Nat} {js:List Nat} {scope:Scope} {cl:List (Str × Addr)}
end
end L2
set_option Elab.async false
set_option linter.all false
set_option maxRecDepth 100000
namespace L2
open PySem PySem.Spec PyProof.Rows PySem.W
section
variable {X:Cx}
end
def Its (z:Str):It:=⟨fun i _=>i < z.cps.size,fun i H x H'=>H'=H∧∃ c,z.cps[i]?=some c∧x=.str ⟨#[c]⟩,fun i _=>z.cps.size≤i⟩
section
variable {X:Cx} {tg:Expr}
def Ad (tl:TE):TI:=fun σ H R=>tl σ H fun x H1=>∃ z,x=.str z∧z.cps.all (· < 128)=true∧R (Its z) H1
end
section
variable {P:Program} {w:World} {A:Around} {E:Value→Shared→Prop} {s:Shared}
end
section
variable {X:Cx} {e:Expr} {te:TE} {p2 apos cpos pos2:Pos} {z:Str} {zp:Pos} {zk:Nat}
def tZ (K:PySem.W.Frag) (z:Str) (te:TE):TE:=fun σ H Q=>te σ H fun x H1=>∃ (a:Addr) (ys:List Str),x=.ref a∧SqL K H1 a (ys.map V.str)∧(ys.map (·.length)).sum + ys.length * z.length≤16777216∧Q (.str (Str.join z ys.reverse)) H1
end
end L2
set_option Elab.async false
set_option linter.all false
set_option maxRecDepth 100000
namespace Pb
open L2 PySem PySem.W NumText
end Pb
set_option Elab.async false
set_option linter.all false
set_option maxRecDepth 100000
namespace L2
open PySem PySem.Spec PyProof.Rows PySem.W
end L2
namespace Pb
open L2 PySem PySem.W NumText
open PySem.StrLaws (At ChainG occ_tight partsBetween_eq partsFrom strSub_toList subAt_eq sub_whole)
section
variable {X:Str} {u c v:Nat}
end
end Pb
set_option Elab.async false
set_option linter.all false
set_option maxRecDepth 100000
namespace L2
open PySem PySem.Spec PyProof.Rows PySem.W
end L2
namespace Pb
open L2 PySem PySem.W NumText
end Pb
set_option Elab.async false
set_option linter.all false
set_option maxRecDepth 100000
namespace Pb
open L2 PySem
section
variable {m:Int} {rs:List Road} {r:Int} {par:Int→Int} {dep:Int→Nat} {held:Int→Int}
end
end Pb
set_option Elab.async false
set_option linter.all false
set_option maxRecDepth 100000
namespace L2
open PySem PySem.Spec PyProof.Rows
section
variable {prog:Program} {w:World} {A:Around} {E:Value→Shared→Prop} {R:Result→Shared→Prop} {s:Shared}
end
section
variable {M:Model} {A:Around} {E:Value→Shared→Prop} {s:Shared} {Q:Unit→Shared→Prop} {fs:List Addr} {ea T L:Addr} {cls fl hd:Value} {od:Option Addr} {base:Heap} {env:Env} {outer:List Env}
end
section
variable {P:Program} {w:World} {K:PySem.W.Frag} {mg:Str→Option Value} {base:Heap} {N:List Str} {qual:Str} {scope:Scope} {f:Addr} {cd:Value} {A:Around} {outer:List Env} {s:Shared} {H:Hp} {E:XK}
end
section
variable {X:Cx} {Nc:List Str} {own:Nat} {js:List Nat} {scope:Scope} {cl:List (Str × Addr)}
end
section
variable {X:Cx} {Nc:List Str} {own:Nat} {js:List Nat} {scope:Scope} {cl:List (Str × Addr)}
end
section
variable {X:Cx}
theorem gE (K:PySem.W.Frag) (h:X.K=K):dz X (.builtin "isinstance") (rH K):=by subst h; exact uR
theorem rz (K:PySem.W.Frag) (h:X.K=K):dz X (.builtin "isinstance") (yt K):=by subst h; exact um
end
end L2
set_option Elab.async false
set_option linter.all false
set_option maxRecDepth 100000
namespace L2
open PySem PySem.Spec PyProof.Rows
section
variable {prog:Program} {w:World} {A:Around} {E:Value→Shared→Prop} {h:Heap} {g:Array GenState} {d:Drawn} {t:Nat} {os:OsState}
variable {nm q:Str} {C N:Addr} {bs bm bmB:List Value} {hdct:Bool} {sn:List Str} {sub:List Value} {ab:Bool} {col:Option Bool} {dd:Option Addr} {k0 k1 k2 k3 k5:Option Value} {B newId initId:String}
theorem lp (F:ExcBaseFacts B newId initId bmB) (T:OwnTail h bmB bm) {mN:Str→Option Value} {rest:List Value} {fI:Addr} {oI:Obj} {Q:Fin→Shared→Prop}
   (hC:h.get? C=some (excClassObj nm q C N bs bm hdct sn sub ab col dd k0 k1 k2 k3 k5 newId)) (hn:h.Ns N mN) (hi:mN "__init__"=some (.ref fI)) (hfI:h.get? fI=some oI) (hfc:oI.cls=.type "function")
   (hq:∀ h' e,Heap.MadeExcOf h h' e (.ref C) rest→wpAny (model prog w) A (call (.ref fI) (.ref e :: rest)) (fun r s'=>r=.none∧Q (.done (.ret (.ref e))) s') E ⟨h',g,d,t,os⟩) (hrest:rest.length≤sizeLine) :
   wpAny (model prog w) A (Builtin.«type.__call__» ⟨.ref C :: rest,[]⟩) Q E ⟨h,g,d,t,os⟩:=by
 repeat (first | with_reducible refine wpAny_loadPart_at hC ?_ | with_reducible refine wpAny_madeBy_exc hC ?_ | wp_step)
 refine codeAny_call_builtin_code (Code.quiet_builtin _ F.quiet) (wpAny_check_new_subT F T hC ?_)
 refine codeAny_exc_new_subT F T hC ?_ hrest
 show wpAny _ _ _ _ _ _
 have up:∀ b o,h.get? b=some o→((h.push { cls:=.type "tuple",data:=.seq rest.toArray }).push { cls:=.ref C,data:=.fields #[.ref h.objs.size,.none,.none,.none,.bool false,.none] }).get? b=some o:=fun b o e=>Heap.get?_push_of_some _ (Heap.get?_push_of_some _ e)
 have hC1:=up _ _ hC
 have hf1:=up _ _ hfI
 have hn1:=hn.keeps up
 have T1:=T.keeps up
 have hget:((h.push { cls:=.type "tuple",data:=.seq rest.toArray }).push { cls:=.ref C,data:=.fields #[.ref h.objs.size,.none,.none,.none,.bool false,.none] }).get? (h.objs.size + 1)=some { cls:=.ref C,data:=.fields #[.ref h.objs.size,.none,.none,.none,.bool false,.none] }:=by heap_get
 have hcC:(Value.ref C :: bm).contains (.ref C)=true:=by simp
 unfold isInstance
 repeat (first | with_reducible refine wpAny_loadPart_at hget ?_ | (with_reducible refine wpAny_isSubtype_exc hC1 ?_; rw [hcC]) | wp_step)
 show wpAny _ _ (typeLookup (.ref C) _) _ _ _
 refine wpAny_typeLookup_tail hC1 hn1 T1 F.mroIs F.init.lookup ?_
 rw [hi]
 refine wpAny_holding (wpAny_bind ?_)
 unfold bindSpecial
 refine wpAny_bind (wpAny_typeOf (T:="function") ⟨_,hf1,hfc⟩ ?_)
 rw [if_pos (by decide)]
 refine wpAny_pure (wpAny_bind (wpAny_mono (hq _ (h.objs.size + 1) ⟨up,Heap.get?_none_of_le (Nat.le_succ _),h.objs.size,hget,Heap.get?_none_of_le (Nat.le_refl _),?_⟩) (fun r s' hr=>?_) fun _ _ x=>x))
 · exact Heap.get?_push_of_some _ (Heap.get?_push_at rfl rfl)
 · obtain ⟨rfl,hQ⟩:=hr
   wp_walk
   exact hQ
theorem rW (F:ExcBaseFacts B newId initId bmB) (T:OwnTail h bmB bm) {mN:Str→Option Value} {rest:List Value} {fI:Addr} {oI:Obj} {Q:Value→Shared→Prop}
   (hC:h.get? C=some (excClassObj nm q C N bs bm hdct sn sub ab col dd k0 k1 k2 k3 k5 newId)) (hn:h.Ns N mN) (hi:mN "__init__"=some (.ref fI)) (hfI:h.get? fI=some oI) (hfc:oI.cls=.type "function")
   (hq:∀ h' e,Heap.MadeExcOf h h' e (.ref C) rest→wpAny (model prog w) (A.under (.builtin "type.__call__" ⟨.ref C :: rest,[]⟩)) (call (.ref fI) (.ref e :: rest)) (fun r s'=>r=.none∧Q (.ref e) s') E ⟨h',g,d,t,os⟩) (hrest:rest.length≤sizeLine) :
   wpAny (model prog w) A (call (.ref C) rest) Q E ⟨h,g,d,t,os⟩:=by
 have f1:=tc_lookup
 have f2:=tc_bind (.ref C)
 have hT:(⟨h,g,d,t,os⟩:Shared).TypeIs (.ref C) "type":=⟨_,hC,rfl⟩
 refine wpAny_call (codeAny_of_tree ?_)
 show wpAny _ _ (callAny (.ref C) _) _ _ _
 repeat (any_goals (first | assumption | with_reducible refine wpAny_loadPart_at hC ?_ | wp_step))
 refine ⟨rfl,?_⟩
 refine codeAny_call_builtin_at (Code.quiet_builtin _ (by decide +kernel)) entry_typeCall (wpAny_check_type_call_sub hC (lp F T hC hn hi hfI hfc (fun h' e hm=>?_) hrest))
 exact hq h' e hm
end
section
variable {M:Model} {A:Around} {E:Value→Shared→Prop} {env:Env}
variable {nm q:Str} {C N:Addr} {bs bm:List Value} {hdct:Bool} {sn:List Str} {sub:List Value} {ab:Bool} {col:Option Bool} {dd:Option Addr} {k0 k1 k2 k3 k5:Option Value} {newId:String}
theorem iy {s:Shared} {x:Sem Value} {Q:Flow→Shared→Prop} (hbase:bm.contains (.type "BaseException")=true) (hh:A.handled=none)
   (h:wpAny M A x (fun v s₁=>∃ e a0 od sl,v=.ref e∧s₁.heap.get? C=some (excClassObj nm q C N bs bm hdct sn sub ab col dd k0 k1 k2 k3 k5 newId) ∧
     s₁.heap.get? e=some { cls:=.ref C,dict:=od,data:=.fields #[a0,.none,.none,.none,.bool false,.none],slots:=sl }∧E (.ref e) s₁) E s) :
   wpAny M A (raiseStmt env (some x) none) Q E s:=by
 have hcB:(Value.ref C :: bm).contains (.type "BaseException")=true:=by rw [List.contains_cons,hbase,Bool.or_true]
 unfold raiseStmt
 refine wpAny_bind (wpAny_mono h (fun v s₁ h₁=>?_) fun _ _ x=>x)
 obtain ⟨e,a0,od,sl,rfl,hC,he,hE⟩:=h₁
 obtain ⟨hp,g,d,tk,os⟩:=s₁
 repeat (first | with_reducible refine wpAny_loadPart_at he ?_ | with_reducible refine wpAny_loadPart_at hC ?_ | (with_reducible refine wpAny_isSubtype_exc hC ?_; rw [hcB]) | wp_step)
 exact wpAny_raiseNew_none hh hE
end
section
variable {prog:Program} {w:World} {A:Around} {E:Value→Shared→Prop} {s:Shared} {env:Env}
variable {nm q:Str} {C N:Addr} {bs bm bmB:List Value} {hdct:Bool} {sn:List Str} {sub:List Value} {ab:Bool} {col:Option Bool} {dd:Option Addr} {k0 k1 k2 k3 k5:Option Value} {B newId initId:String}
theorem kQ (F:ExcBaseFacts B newId initId bmB) {x:Str} {np cpos pos:Pos} {args:List Expr} {Q:Flow→Shared→Prop}
   (hbase:bm.contains (.type "BaseException")=true) (hh:A.handled=none) (hplain:(backTo cpos (starEach args env)).any (·.1)=false)
   (h:wpAny (model prog w) A (eval (.Name x np) env) (fun f s₁=>f=.ref C∧wpAny (model prog w) A (evalArgs (.ref C) true (backTo cpos (starEach args env)) [])
     (fun a s₂=>a.kw=[]∧a.pos.length≤sizeLine∧∃ mN fI oI,s₂.heap.get? C=some (excClassObj nm q C N bs bm hdct sn sub ab col dd k0 k1 k2 k3 k5 newId)∧s₂.heap.Ns N mN∧OwnTail s₂.heap bmB bm∧mN "__init__"=some (.ref fI)∧s₂.heap.get? fI=some oI∧oI.cls=.type "function" ∧
       ∀ h' e,Heap.MadeExcOf s₂.heap h' e (.ref C) a.pos→wpAny (model prog w) (A.under (.builtin "type.__call__" ⟨.ref C :: a.pos,[]⟩)) (call (.ref fI) (.ref e :: a.pos)) (fun r s'=>r=.none ∧
         s'.heap.get? C=some (excClassObj nm q C N bs bm hdct sn sub ab col dd k0 k1 k2 k3 k5 newId)∧(∃ a0 od sl,s'.heap.get? e=some { cls:=.ref C,dict:=od,data:=.fields #[a0,.none,.none,.none,.bool false,.none],slots:=sl })∧E (.ref e) s') E { s₂ with heap:=h' }) E s₁) E s) :
   wpAny (model prog w) A (exec (.Raise (some (.Call (.Name x np) args [] cpos)) none pos) env) Q E s:=by
 rw [arm_exec_Raise]
 first
   | refine wpAny_bind (wpAny_standAt (iy (C:=C) (nm:=nm) (q:=q) (N:=N) (bs:=bs) (bm:=bm) (hdct:=hdct) (sn:=sn) (sub:=sub) (ab:=ab) (col:=col) (dd:=dd) (k0:=k0) (k1:=k1) (k2:=k2) (k3:=k3) (k5:=k5) (newId:=newId) hbase hh (wpAny_bind (wpAny_mono (wpAny_Call_ofName (wpAny_mono h (fun f s₁ h₁=>?_) fun _ _ x=>x)) (fun v s₃ h₃=>wpAny_bind (wpAny_standAt (wpAny_pure h₃))) fun _ _ x=>x))))
   | (simp only [evalOpt,Option.map]; refine wpAny_bind (wpAny_standAt (iy (C:=C) (nm:=nm) (q:=q) (N:=N) (bs:=bs) (bm:=bm) (hdct:=hdct) (sn:=sn) (sub:=sub) (ab:=ab) (col:=col) (dd:=dd) (k0:=k0) (k1:=k1) (k2:=k2) (k3:=k3) (k5:=k5) (newId:=newId) hbase hh (wpAny_bind (wpAny_mono (wpAny_Call_ofName (wpAny_mono h (fun f s₁ h₁=>?_) fun _ _ x=>x)) (fun v s₃ h₃=>wpAny_bind (wpAny_standAt (wpAny_pure h₃))) fun _ _ x=>x)))))
   | (refine wpAny_bind (wpAny_standAt (iy (C:=C) (nm:=nm) (q:=q) (N:=N) (bs:=bs) (bm:=bm) (hdct:=hdct) (sn:=sn) (sub:=sub) (ab:=ab) (col:=col) (dd:=dd) (k0:=k0) (k1:=k1) (k2:=k2) (k3:=k3) (k5:=k5) (newId:=newId) hbase hh ?_)); refine wpAny_bind (wpAny_mono (wpAny_Call_ofName (wpAny_mono h (fun f s₁ h₁=>?_) fun _ _ x=>x)) (fun v s₃ h₃=>wpAny_bind (wpAny_standAt (wpAny_pure h₃))) fun _ _ x=>x))
 obtain ⟨rfl,h₁⟩:=h₁
 unfold callWith
 refine wpAny_bind (wpAny_holding (wpAny_mono h₁ (fun a s₂ h₂=>wpAny_bind (wpAny_standAt ?_)) fun _ _ x=>x))
 obtain ⟨apos,akw⟩:=a
 obtain ⟨hkw,hlen,mN,fI,oI,hC,hn,T,hi,hf,hfc,h₂⟩:=h₂
 obtain rfl:akw=[]:=hkw
 obtain ⟨hp,g,d,tk,os⟩:=s₂
 simp only [hplain]
 refine wpAny_bind (wpAny_keeperOf_exc hC ?_)
 refine wpAny_bind (rW F T hC hn hi hf hfc (fun h' e hm=>wpAny_mono (h₂ h' e hm) (fun r s' hr=>⟨hr.1,wpAny_bind (wpAny_holding (wpAny_point (wpAny_pure ?_)))⟩) fun _ _ y=>y) hlen)
 obtain ⟨_,c1,⟨a0,od,sl,c2⟩,c3⟩:=hr
 exact ⟨e,a0,od,sl,rfl,c1,c2,c3⟩
end
def ExN (ea:Addr) (cls:Value) (od:Option Addr):HO:=.ext fun h=>∃ a0 sl,h.get? ea=some { cls:=cls,dict:=od,data:=.fields #[a0,.none,.none,.none,.bool false,.none],slots:=sl }
def del (H:Hp) (a:Addr):Hp:=fun b=>if b=a then none else H b
theorem iW {H:Hp} {a b:Addr} (h:b≠a):del H a b=H b:=if_neg h
theorem kf {H:Hp} {a:Addr}:del H a a=none:=if_pos rfl
section
variable {X:Cx} {pins:List (Addr × Obj)} {σ:St} {H:Hp} {s:Shared}
theorem Inv.trackN {ea:Addr} {cls:Value} {od:Option Addr} (I:Inv X pins σ H s) (l:Loose X pins H ea) (e:∃ a0 sl,s.heap.get? ea=some { cls:=cls,dict:=od,data:=.fields #[a0,.none,.none,.none,.bool false,.none],slots:=sl }):Inv X pins σ (upd H ea (ExN ea cls od)) s:=by
 have ne:∀ b,b≠ea→upd H ea (ExN ea cls od) b=H b:=fun b z=>ap z
 have nt:∀ b u,H b=some u→upd H ea (ExN ea cls od) b=some u:=fun b u z=>by rw [ne b (aY z l.un)]; exact z
 refine ⟨I.ok,I.os,I.bare,⟨I.base.keep,I.base.slot,fun b o q n x=>?_,I.base.there,fun b xs q=>nt _ _ (I.base.tups b xs q),fun b o u q=>nt _ _ (I.base.frzs b o u q),fun b ps q=>?_⟩,I.loc,I.cell,?_,fun x c q=>?_,fun p hp=>?_,?_,I.len⟩
 · rw [ne b (by rintro rfl; rw [l.new] at q; cases q)]
   exact I.base.free b o q n x
 · obtain ⟨more,z⟩:=I.base.tbls b ps q
   exact ⟨more,nt _ _ z⟩
 · rw [ne _ (Ne.symm l.loc)]
   exact I.free
 · rw [ne _ (l.cel x c q)]
   exact I.freeC x c q
 · obtain ⟨z1,z2,z3,z4,z5⟩:=I.pin p hp
   exact ⟨z1,by rw [ne _ (l.pin p hp)]; exact z2,z3,z4,z5⟩
 · intro b u q
   by_cases z:b=ea
   · subst z
     rw [ah] at q
     cases q
     obtain ⟨a0,sl,h1⟩:=e
     refine ⟨⟨a0,sl,h1⟩,⟨_,h1⟩,?_⟩
     rintro g1 g2 ⟨a,l,a1⟩ kk
     exact ⟨a,l,kk _ a1⟩
   · rw [ne b z] at q
     exact (I.hok b u q).stay (fun _ _ _ r=>r) (fun c r=>nt _ _ r) fun c xs r=>nt _ _ r
theorem Inv.untrack {ea:Addr} {φ:Heap→Prop} (I:Inv X pins σ H s) (e:H ea=some (.ext φ)):Inv X pins σ (del H ea) s:=by
 have nt:∀ b u,H b=some u→b≠ea→del H ea b=some u:=fun b u z n=>by rw [iW n]; exact z
 have nn:∀ b,H b=none→del H ea b=none:=fun b z=>by
   by_cases q:b=ea
   · rw [q,kf]
   · rw [iW q]; exact z
 refine ⟨I.ok,I.os,I.bare,⟨I.base.keep,I.base.slot,fun b o q n x=>nn _ (I.base.free b o q n x),I.base.there,fun b xs q=>?_,fun b o u q=>?_,fun b ps q=>?_⟩,I.loc,I.cell,nn _ I.free,fun x c q=>nn _ (I.freeC x c q),fun p hp=>?_,?_,I.len⟩
 · have z:=I.base.tups b xs q
   exact nt _ _ z (by rintro rfl; rw [e] at z; cases z)
 · have z:=I.base.frzs b o u q
   exact nt _ _ z (by rintro rfl; rw [e] at z; cases z)
 · obtain ⟨more,z⟩:=I.base.tbls b ps q
   exact ⟨more,nt _ _ z (by rintro rfl; rw [e] at z; cases z)⟩
 · obtain ⟨z1,z2,z3,z4,z5⟩:=I.pin p hp
   exact ⟨z1,nn _ z2,z3,z4,z5⟩
 · intro b u q
   have nb:b≠ea:=by rintro rfl; rw [kf] at q; cases q
   rw [iW nb] at q
   exact (I.hok b u q).stay (fun _ _ _ r=>r) (fun c r=>nt _ _ r (by rintro rfl; rw [e] at r; cases r)) fun c xs r=>nt _ _ r (by rintro rfl; rw [e] at r; cases r)
end
def qk (X:Cx) (E:XK):Prop:=∀ (pins:List (Addr × Obj)) (σ:St) (H:Hp) (s:Shared) (ea:Addr) (cls:Value) (od:Option Addr),Inv X pins σ H s→dS s.heap ea cls od .none→Loose X pins H ea→E cls od H→X.xe (.ref ea) s
section
variable {P:Program} {w:World} {K:PySem.W.Frag} {mg:Str→Option Value} {base:Heap} {N:List Str} {qual:Str} {scope:Scope} {f:Addr} {cd:Value} {A:Around} {outer:List Env} {s:Shared} {H:Hp} {E:XK}
theorem zi:qk (eT (CXe P w) P w K mg base N qual scope f cd A outer s H E) E:=by
 intro pins σ H1 s1 ea cls od J er le q
 refine ni (base:=base) J.ok.frames J.stack rfl er fun h2 T' er' k nT=>?_
 have fr:∀ b∈frs (envOfC qual scope s.heap.objs.size f cd :: outer),H1 b=none:=J.stkFree
 refine ⟨ea,T',cls,od,H1,rfl,J.os,J.bare,kj J k ?_,io J.hok k fr ?_,le.un,ji J.hok nT,le.new,eg J nT,er',q⟩
 · intro b hb
   rw [List.mem_singleton.mp hb]
   exact le.new
 · intro b hb
   rw [List.mem_singleton.mp hb]
   exact le.un
end
theorem sk {K:PySem.W.Frag} {h:Heap} {N:Addr} {mg:Str→Option Value} {n:Str} {v:Value} (X:K.In h) (G:h.Ns N mg) (e:PySem.W.nsIn K N n=some (some v)):mg n=some v:=by
 obtain ⟨o,es,ep,ho,hd,_,hf⟩:=G
 unfold PySem.W.nsIn at e
 split at e
 · rename_i c d es' n' sl q
   have:=X _ _ q
   rw [ho] at this
   cases this
   cases hd
   split at e
   · rename_i en he
     cases e
     rw [← hf]
     unfold nsFind findBy
     rw [← Array.find?_toList,he]
     rfl
   · rename_i he
     split at e <;> cases e
 · cases e
def jD (K:PySem.W.Frag) (C fI:Addr):Prop:=∃ (nm qn:Str) (N:Addr) (bs bm:List Value) (hdct:Bool) (sn:List Str) (sub:List Value) (ab:Bool) (col:Option Bool) (dd:Option Addr) (k0 k1 k2 k3 k5:Option Value),
   K.lookup C=some (excClassObj nm qn C N bs bm hdct sn sub ab col dd k0 k1 k2 k3 k5 "ValueError.__new__")∧PySem.W.nsOkIn K N=true∧PySem.W.nsIn K N "__init__"=some (some (.ref fI))∧PySem.W.tailIn K bmV bm=true∧PySem.W.isFn K (.ref fI)=true
def zd (C:Addr) (sp:Sp) (E:XK) (t:TA):TS:=fun _ σ H=>t σ H fun vs H1=>vs.length≤sizeLine∧∀ ea,H1 ea=none→sp (.ref ea :: vs) (upd H1 ea (ExN ea (.ref C) none)) (fun v H2=>v=.non∧∃ od,H2 ea=some (ExN ea (.ref C) od)∧E (.ref C) od (del H2 ea)) fun _ _ _=>False
section
variable {X:Cx} {x:Str} {np cpos pos:Pos} {e0:Expr} {es:List Expr} {t:TA} {C fI:Addr} {E:XK} {CX:CXT} {k:Nat} {fd:FuncData} {ps:List Str} {sp:Sp}
theorem tT (q:jD X.K C fI) (F:FnOk X.prog X.w X.K X.mg X.base CX k fI fd ps sp) (hq:aL CX) (hr:Room (k + 1) X.A) (hb:Binds X.K fd ps []) (hx:X.ex=[]) (hc:X.calm=true) (hR:qk X E) (hg:Gl X x) (hm:X.mg x=some (.ref C)) (ha:PA X (e0 :: es) t) (hdb:(x == ("__debug__":Str))=false:=by decide)
   (he:starEach (e0 :: es) X.env=(false,eval e0 X.env) :: starEach es X.env:=by rfl) (hpl:(backTo cpos (starEach es X.env)).any (·.1)=false:=by rfl):PS X (.Raise (some (.Call (.Name x np) (e0 :: es) [] cpos)) none pos) (zd C sp E t):=by
 intro pins s σ H D I h
 obtain ⟨nm,qn,N,bs,bm,hdct,sn,sub,ab,col,dd,k0,k1,k2,k3,k5,ho,z5,z6,z4,z7⟩:=q
 have B:=I.mod.kin
 have T0:=PySem.W.tail_of_in B z4
 have N0:X.base.Ns N (X.base.nsMap N):=.of_isNs (PySem.W.isNs_of_in B z5)
 have n0:=sk B N0 z6
 obtain ⟨oI,lI,cI⟩:∃ oI,X.K.lookup fI=some oI∧oI.cls=.type "function":=by
   have z:=beq_iff_eq.mp z7
   unfold PySem.W.typeIn at z
   exact Option.map_eq_some_iff.mp z
 have hp:(backTo cpos (starEach (e0 :: es) X.env)).any (·.1)=false:=by
   rw [he]
   show (false || (backTo cpos (starEach es X.env)).any (·.1))=false
   rw [hpl]
   rfl
 refine kQ (C:=C) (nm:=nm) (q:=qn) (N:=N) (bs:=bs) (bm:=bm) (hdct:=hdct) (sn:=sn) (sub:=sub) (ab:=ab) (col:=col) (dd:=dd) (k0:=k0) (k1:=k1) (k2:=k2) (k3:=k3) (k5:=k5) PySem.F.excBase_ValueError
   (T0.hasType (by decide +kernel)) (I.ok.hd hc) hp (dH I hg hm ⟨rfl,?_⟩ hdb)
 have g:=ha cpos pins s σ H _ I h
 rw [he] at g ⊢
 refine Calls.evalArgs_plain (thn g fun us s1 ⟨vs,H1,I1,r1,q1⟩=>⟨rfl,by show us.length≤_; rw [← r1.length]; exact q1.1,X.base.nsMap N,fI,oI,I1.bk _ _ (B _ _ ho),N0.keeps I1.bk,T0.keeps I1.bk,n0,I1.bk _ _ (B _ _ lI),cI,fun h' ea m=>?_⟩)
 obtain ⟨tt,m1,_,_⟩:=m.there
 have le:Loose X pins H1 ea:=by
   obtain ⟨a1,a2,a3⟩:=I1.apart m.new
   refine ⟨ji I1.hok m.new,?_,a1,a2,a3⟩
   rcases I1.young m.new with y | y
   · exact y
   · rw [hx] at y; cases y
 have I2:Inv X pins σ (upd H1 ea (ExN ea (.ref C) none)) { s1 with heap:=h' }:=Inv.trackN (I1.kept (t':=s1.toks) m.keeps) le ⟨_,_,m1⟩
 have sp1:=q1.2 ea le.un
 have r2:Vals (V.ref ea :: vs) (Value.ref ea :: us):=.cons rfl r1
 have hl:(Value.ref ea :: us).length=ps.length:=by rw [← r2.length]; exact F.len _ _ _ _ sp1
 refine wpAny_call (codeAny_mono (F.run _ X.stack _ _ ⟨Value.ref ea :: us,[]⟩ (Value.ref ea :: us) _ _ _ (hr.make C us []) (I2.env0.make C us []) (by have:=hb { s1 with heap:=h' } (Value.ref ea :: us) I2.kIn (by rw [List.append_nil]; exact hl); rw [List.append_nil] at this; exact this) r2 sp1) fun r s' hq'=>?_)
 cases r with
 | error e=>exact (hq _ _ _ _ _ hq').elim
 | ok fl =>
   cases fl with
   | ret u =>
     obtain ⟨v,H',I3,rv,ev,od,e3,q3⟩:=I2.after hq'
     subst ev
     obtain rfl:u=Value.none:=rv
     obtain ⟨⟨a0,sl,e4⟩,_,_⟩:=(show ObjOk X.prog X.w H' s'.heap ea (ExN ea (.ref C) od) from I3.hok ea _ e3)
     refine ⟨rfl,I3.bk _ _ (B _ _ ho),⟨a0,od,sl,e4⟩,?_⟩
     refine hR pins σ (del H' ea) s' ea (.ref C) od (I3.untrack e3) ⟨_,_,e4,rfl,rfl,rfl,rfl⟩ ⟨kf,le.new,le.loc,le.cel,le.pin⟩ q3
   | next=>exact False.elim hq'
   | brk=>exact False.elim hq'
   | cont=>exact False.elim hq'
end
structure BaseIn (K:PySem.W.Frag) (Tl:Addr):Prop where
 ga:PySem.W.specialIn K (.ref Tl) "__getattribute__"=some (some (.builtin "type.__getattribute__"))
 rd:PySem.W.readsIn K Tl (.type "type")=true
 fd:PySem.W.findCls K (.ref Tl) (.type "type") "__init__"=some (.val (.builtin "ValueError.__init__"))
def sQ (K:PySem.W.Frag) (t:TA):TE:=fun σ H Q=>t σ H fun vs H1=>∃ ea C fI od rest,vs=.ref ea :: rest∧rest.length≤sizeLine∧jD K C fI∧H1 ea=some (ExN ea (.ref C) od)∧Q .non H1
section
variable {X:Cx} {x:Str} {np apos pos:Pos} {e0:Expr} {es:List Expr} {t:TA} {Tl:Addr} {pl:Sem Bool}
theorem p8 (b:BaseIn X.K Tl) (hg:Gl X x) (hm:X.mg x=some (.ref Tl)) (ha:PA X (e0 :: es) t) (hdb:(x == ("__debug__":Str))=false:=by decide)
   (he:starEach (e0 :: es) X.env=(false,eval e0 X.env) :: starEach es X.env:=by rfl) (hpl:(backTo pos (starEach es X.env)).any (·.1)=false:=by rfl)
   (ht:eval (.Call (.Attribute (.Name x np) "__init__" apos) (e0 :: es) [] pos) X.env=(do
     let ov ← eval (.Name x np) X.env
     standAt apos.atName
     let (f,first) ← holding [ov] (getMethod ov "__init__" pl)
     callWith pos f first (backTo pos (starEach (e0 :: es) X.env)) (backToKw pos (keywordEach [] X.env))):=by rfl) :
   PE X (.Call (.Attribute (.Name x np) "__init__" apos) (e0 :: es) [] pos) (sQ X.K t):=by
 intro pins s σ H Q I h
 refine PySem.W.methodCall_KW (pl:=pl) (dH I hg hm ?_ hdb) ht
 refine PySem.W.method_cls I.kIn b.ga (PySem.W.cls_value I.kIn b.rd b.fd (by decide +kernel) ?_)
 have I0:=I.tok (s.toks + 1)
 have g0:=ha pos pins _ σ H _ I0 h
 rw [he] at g0 ⊢
 refine PySem.W.callWith_of (P:=fun _=>True) (by show ((false || (backTo pos (starEach es X.env)).any (·.1)) || false)=false; rw [hpl]; rfl) (fun h _=>⟨.machine,.inr (.inl rfl),.now⟩) (Calls.evalArgs_plain (thn g0 fun us s1 ⟨vs,H1,I1,r1,ea,C,fI,od,rest,ev,hl,q,e1,q1⟩=>⟨trivial,?_⟩))
 subst ev
 obtain ⟨u,us',rfl,ru,rr⟩:∃ u us',us=u :: us'∧RelV (.ref ea) u∧Vals rest us':=by cases r1 with | cons a c=>exact ⟨_,_,rfl,a,c⟩
 obtain rfl:u=Value.ref ea:=ru
 obtain ⟨nm,qn,N,bs,bm,hdct,sn,sub,ab,col,dd,k0,k1,k2,k3,k5,ho,z5,z6,z4,z7⟩:=q
 have B:=I.mod.kin
 have T0:=(PySem.W.tail_of_in B z4).keeps I1.bk
 have hC:=I1.bk _ _ (B _ _ ho)
 obtain ⟨⟨a0,sl,e4⟩,_,_⟩:=(show ObjOk X.prog X.w H1 s1.heap ea (ExN ea (.ref C) od) from I1.hok ea _ e1)
 have F:=PySem.F.excBase_ValueError
 obtain ⟨hp,g,d,tk,os⟩:=s1
 refine wpAny_call (codeAny_call_builtin F.init.plain F.initEntry (wpAny_check_init_subT F T0 hC e4 rfl ?_))
 wp_walk
 have ul:us'.length=rest.length:=rr.length.symm
 rw [if_neg (by rw [List.size_toArray]; omega)]
 wp_walk
 have lt:ea < hp.objs.size:=Heap.lt_size e4
 have e5:(hp.push { cls:=Value.type "tuple",data:=Data.seq us'.toArray }).get? ea=some { cls:=.ref C,dict:=od,data:=.fields #[a0,.none,.none,.none,.bool false,.none],slots:=sl }:=Heap.get?_push_of_some _ e4
 have fin:EP X pins σ Q .none ⟨(hp.push { cls:=Value.type "tuple",data:=Data.seq us'.toArray }).update ea (Obj.mapFields fun x=>x.setIfInBounds 0 (Value.ref hp.objs.size)),g,d,tk,os⟩:=by
   have e6:=Heap.get?_update_self (Obj.mapFields fun x=>x.setIfInBounds 0 (Value.ref hp.objs.size)) e5 rfl
   have I2:=I1.write (x:=ea) (e:=ea) (o:=ExN ea (.ref C) od) (t':=tk) (h':=(hp.push { cls:=Value.type "tuple",data:=Data.seq us'.toArray }).update ea (Obj.mapFields fun x=>x.setIfInBounds 0 (Value.ref hp.objs.size))) (by rw [e1]; trivial) (.inl rfl) (fun b u n z=>by rw [Heap.get?_update_other _ _ (Ne.symm n)]; exact Heap.get?_push_of_some _ z) ⟨_,e6⟩
     ⟨⟨_,_,e6⟩,⟨_,e6⟩,by
       rintro g1 g2 ⟨a,l,a1⟩ kk
       exact ⟨a,l,kk _ a1⟩⟩
   have es:upd H1 ea (ExN ea (.ref C) od)=H1:=by
     funext b
     by_cases z:b=ea
     · rw [z,ah,e1]
     · rw [ap z]
   rw [es] at I2
   exact ⟨.non,H1,I2,rfl,q1⟩
 show wpAny _ _ (match a0 with | Value.ref a=>letGo [a0] | x=>pure ()) _ _ _
 cases a0 with
 | ref a=>exact wpAny_letGo (wpAny_pure fin)
 | _=>exact wpAny_pure (wpAny_pure fin)
end
end L2
set_option Elab.async false
set_option linter.all false
set_option maxRecDepth 100000
namespace L2
open PySem PySem.Spec PyProof.Rows PySem.W PySem.Builtin PySem.Builtin.ObjectAttr
theorem qV (self:Value):refuseLoop self "__setattr__" bmV=pure ():=by kernel_rfl
section
variable {K:PySem.W.Frag} {prog:Program} {w:World} {A:Around} {s:Shared} {x C Tl:Addr} {R:Result→Shared→Prop}
theorem y9 {ox:Obj} {od:Option Obj} {name:Str} {tk:Tok} {v:Value} {cd:ClassData} (X:K.In s.heap) (I:PySem.W.InstAt s.heap x ox C od) (hc:PySem.W.clsIn K C=some cd) (hmro:cd.mro=.ref C :: .ref Tl :: bmV) (ht:PySem.W.takerIn K C name=some none)
   (h:∀ b,wpAny (model prog w) A.in1 (storeInOwnDict (.ref x) (.ref C) (.str name tk) name v b)
     (fun fin s'=>match fin with | .done f=>R (.ok f) s' | .again c'=>c'.quiet=true∧codeAny (model prog w) A c' R s') (fun e s'=>R (.error e) s') s) :
   codeAny (model prog w) A (.call (.builtin "object.__setattr__") ⟨[.ref x,.str name tk,v],[]⟩) R s:=by
 have SF:=PySem.F.store_object
 have ne:cd.mro.isEmpty=false:=by rw [hmro]; rfl
 have sub:PySem.W.Looks (model prog w) s.heap (isInstance (.ref x) (.type "object")) true:=I.type.andThen (PySem.W.looks_mroIn X (by unfold PySem.W.mroIn; rw [hc,Option.bind_some,if_neg (by rw [ne]; decide),hmro]; simp))
 refine codeAny_call_builtin SF.slot.plain SF.entry (@check_slot (model prog w) _ _ s "object.__setattr__" "object" "__setattr__" (.ref x) [.str name tk,v] [] _ SF.kind SF.split sub (SF.args (.ref x) (.str name tk) v) ?_)
 obtain ⟨attr,ha,hr⟩:=Option.bind_eq_some_iff.mp ht
 have hm:PySem.W.Looks (model prog w) s.heap (mroOf (.ref C)) cd.mro:=(PySem.W.looks_clsIn X hc).andThen .now
 have L3:PySem.W.Looks (model prog w) s.heap (storeTaker? attr) none:=by
   cases attr with
   | none=>exact .now
   | some a =>
     obtain ⟨b,hb,z⟩:=Option.map_eq_some_iff.mp hr
     refine (PySem.W.looks_takesIn X hb).andThen ?_
     cases b
     · exact .now
     · cases z
 rw [PySem.W.osa_eq,refuse_eq]
 refine wpAny_bind (wpAny_bind (I.type.here (wpAny_bind (hm.here ?_))))
 rw [hmro,refuseLoop_ref,refuseLoop_ref,qV]
 refine wpAny_pure (wpAny_bind (I.type.here (wpAny_bind ((PySem.W.looks_findIn X ha).here (wpAny_bind (L3.here ?_))))))
 exact h _
theorem ue {name:Str} {tk:Tok} {v:Value} {b:Bool} {oe:Obj} {vs:Array Value} {cd:ClassData} {Q:Fin→Shared→Prop} {E:Value→Shared→Prop} (X:K.In s.heap) (he:s.heap.get? x=some oe) (h1:oe.cls=.ref C) (h2:oe.dict=none) (h3:oe.data=.fields vs) (hc:PySem.W.clsIn K C=some cd) (hh:cd.hasDict=true)
   (h:∀ h' dx,s.heap.get? dx=none→h'.get? x=some { oe with dict:=some dx }→h'.Ns1 dx (fun y=>if y=name then some v else none)→(∀ c o,c≠x→s.heap.get? c=some o→h'.get? c=some o)→Q (.done (.ret .none)) { s with heap:=h',toks:=s.toks + 1 }) :
   wpAny (model prog w) A (storeInOwnDict (.ref x) (.ref C) (.str name tk) name v b) Q E s:=by
 obtain ⟨hp,g,d,t,os⟩:=s
 have L:=PySem.W.looks_clsIn (M:=model prog w) X hc
 unfold storeInOwnDict ownDictForStores instanceDict
 refine wpAny_bind (wpAny_pure ?_)
 simp only [show (Value.ref C == Value.type "module")=false from rfl,Bool.false_eq_true,if_false]
 refine wpAny_bind (wpAny_bind (wpAny_loadPart_at he ?_))
 rw [h1]
 refine wpAny_bind (L.at ?_)
 rw [hh,h2,h3]
 show wpAny _ _ (do let d ← alloc { cls:=Value.type "dict",data:=Data.dict #[] }; update x fun o=>{ cls:=o.cls,dict:=some d,data:=o.data,slots:=o.slots }; dictMade (Value.ref C) x d) _ _ _
 have ex:=Heap.get?_push_of_some { cls:=Value.type "dict",data:=Data.dict #[] } he
 have lt:x < hp.objs.size:=Heap.lt_size he
 refine wpAny_bind (wpAny_alloc' (wpAny_bind (wpAny_update' (o:=oe) ex ?_)))
 show wpAny _ _ (pure (some hp.objs.size)) _ _ _
 refine wpAny_pure ?_
 show wpAny _ _ (storeInDict hp.objs.size (Value.str name tk) name v) _ _ _
 unfold storeInDict
 refine wpAny_bind (wpAny_pure (wpAny_bind ?_))
 have ed:((hp.push { cls:=Value.type "dict",data:=Data.dict #[] }).update x fun o=>{ cls:=o.cls,dict:=some hp.objs.size,data:=o.data,slots:=o.slots }).get? hp.objs.size=some { cls:=Value.type "dict",data:=Data.dict #[] }:=by
   rw [Heap.get?_update_other _ _ (Nat.ne_of_lt lt)]
   exact Heap.get?_push_size _ rfl
 have ns:((hp.push { cls:=Value.type "dict",data:=Data.dict #[] }).update x fun o=>{ cls:=o.cls,dict:=some hp.objs.size,data:=o.data,slots:=o.slots }).Ns1 hp.objs.size (fun _=>none):=by
   refine ⟨_,#[],_,ed,rfl,?_,?_,fun _=>rfl⟩
   · intro e he; simp at he
   · first | exact uniqKeys_empty | (unfold UniqKeys; simp) | (intro i j; simp) | decide
 refine wpAny_nsSet1 (s:=⟨_,g,d,t,os⟩) ns fun h' hn2 hs2=>?_
 obtain ⟨oD,esD,epD,hoD,hdD,hcD⟩:=hn2.count (PySem.Within.cons name v (ns:=[]) (fun _ z=>(z rfl).elim))
 refine wpAny_bind (wpAny_lookBehind hoD (by rw [hdD]; exact pastItsLine_dict (Nat.le_trans hcD (by show 1≤sizeLine + 1; omega))) ?_)
 refine wpAny_pure (h h' hp.objs.size (Heap.get?_none_of_le (Nat.le_refl _)) ?_ hn2 fun c o nc e=>?_)
 · rw [hs2.2 _ (Nat.ne_of_lt lt),Heap.get?_update_self _ ex (Obj.isFreed_of_fields h3)]
 · have lc:=Heap.lt_size e
   rw [hs2.2 _ (Nat.ne_of_lt lc),Heap.get?_update_other _ _ (Ne.symm nc)]
   exact Heap.get?_push_of_some _ e
end
section
variable {X:Cx} {pins:List (Addr × Obj)} {σ:St} {H:Hp} {s:Shared}
theorem Inv.trackO {a:Addr} {o:HO} (I:Inv X pins σ H s) (l:Loose X pins H a) (ok:ObjOk X.prog X.w (upd H a o) s.heap a o):Inv X pins σ (upd H a o) s:=by
 have ne:∀ b,b≠a→upd H a o b=H b:=fun b z=>ap z
 have nt:∀ b u,H b=some u→upd H a o b=some u:=fun b u z=>by rw [ne b (aY z l.un)]; exact z
 refine ⟨I.ok,I.os,I.bare,⟨I.base.keep,I.base.slot,fun b o q n x=>?_,I.base.there,fun b xs q=>nt _ _ (I.base.tups b xs q),fun b o u q=>nt _ _ (I.base.frzs b o u q),fun b ps q=>?_⟩,I.loc,I.cell,?_,fun x c q=>?_,fun p hp=>?_,?_,I.len⟩
 · rw [ne b (by rintro rfl; rw [l.new] at q; cases q)]
   exact I.base.free b o q n x
 · obtain ⟨more,z⟩:=I.base.tbls b ps q
   exact ⟨more,nt _ _ z⟩
 · rw [ne _ (Ne.symm l.loc)]
   exact I.free
 · rw [ne _ (l.cel x c q)]
   exact I.freeC x c q
 · obtain ⟨z1,z2,z3,z4,z5⟩:=I.pin p hp
   exact ⟨z1,by rw [ne _ (l.pin p hp)]; exact z2,z3,z4,z5⟩
 · intro b u q
   by_cases z:b=a
   · subst z
     rw [ah] at q
     cases q
     exact ok
   · rw [ne b z] at q
     exact (I.hok b u q).stay (fun _ _ _ r=>r) (fun c r=>nt _ _ r) fun c xs r=>nt _ _ r
end
structure XSet (K:PySem.W.Frag) (C Tl:Addr) (f:Str):Prop where
 sa:PySem.W.findIn K (.ref C) "__setattr__"=some (some (.builtin "object.__setattr__"))
 cd:∃ cd,PySem.W.clsIn K C=some cd∧cd.mro=.ref C :: .ref Tl :: bmV∧cd.hasDict=true
 tk:PySem.W.takerIn K C f=some none
section
variable {X:Cx} {pins:List (Addr × Obj)} {σ:St} {H:Hp} {s:Shared} {A:Around} {E:Value→Shared→Prop} {ea C Tl:Addr} {f:Str}
theorem zq {y:V} {u:Value} {Q:Unit→Shared→Prop} (h0:X.ex=[]) (I:Inv X pins σ H s) (e:H ea=some (ExN ea (.ref C) none)) (c:XSet X.K C Tl f) (ry:RelV y u)
   (h:∀ s' dx,H dx=none→dx≠ea→Inv X pins σ (upd (upd H ea (ExN ea (.ref C) (some dx))) dx (.xd [(f,y)])) s'→Q () s'):wpAny (model X.prog X.w) A (setAttr (.ref ea) f u) Q E s:=by
 obtain ⟨⟨a0,sl,e4⟩,_,_⟩:=(show ObjOk X.prog X.w H s.heap ea (ExN ea (.ref C) none) from I.hok ea _ e)
 obtain ⟨cd,hc,hm,hd⟩:=c.cd
 have J:PySem.W.InstAt s.heap ea _ C none:=⟨e4,rfl,rfl,trivial⟩
 refine PySem.W.set_plain I.kIn J c.sa (y9 (s:={ s with toks:=s.toks + 1 }) (Tl:=Tl) I.kIn J hc hm c.tk fun b=>ue (s:={ s with toks:=s.toks + 1 }) I.kIn e4 rfl rfl rfl hc hd fun h' dx nd hx hn kp=>?_)
 have ne:dx≠ea:=fun z=>by rw [z] at nd; rw [show s.heap.get? ea=none from nd] at e4; cases e4
 have hu:=ji I.hok nd
 have I2:=I.write (x:=ea) (e:=ea) (o:=ExN ea (.ref C) (some dx)) (t':=s.toks + 1 + 1) (h':=h') (by rw [e]; trivial) (.inl rfl) (fun b u n z=>kp b u n z) ⟨_,hx⟩
   ⟨⟨_,_,hx⟩,⟨_,hx⟩,by
     rintro g1 g2 ⟨a,l,a1⟩ kk
     exact ⟨a,l,kk _ a1⟩⟩
 have l2:Loose X pins (upd H ea (ExN ea (.ref C) (some dx))) dx:=by
   obtain ⟨a1,a2,a3⟩:=I.apart nd
   refine ⟨by rw [ap ne]; exact hu,?_,a1,a2,a3⟩
   rcases I.young nd with z | z
   · exact z
   · rw [h0] at z; cases z
 refine h _ dx hu ne (I2.trackO l2 ⟨_,hn,fun g=>?_⟩)
 show RelO (List.lookup g [(f,y)]) (if g=f then some u else none)
 by_cases q:g=f
 · rw [if_pos q,q,List.lookup_cons_self]; exact ry
 · rw [if_neg q,List.lookup_cons,show (g == f)=false from by simpa using q]; trivial
end
def A5 (K:PySem.W.Frag) (ta tv:TE) (f:Str):TS:=fun D σ H=>tv σ H fun y H1=>ta σ H1 fun x H2=>∃ ea C Tl,x=.ref ea∧H2 ea=some (ExN ea (.ref C) none)∧XSet K C Tl f∧∀ dx,H2 dx=none→dx≠ea→D.nx σ (upd (upd H2 ea (ExN ea (.ref C) (some dx))) dx (.xd [(f,y)]))
section
variable {X:Cx} {o value:Expr} {ta tv:TE} {f:Str} {pos pos':Pos}
theorem yG (h0:X.ex=[]) (ha:PE X o ta) (hv:PE X value tv) (hs:swapsWith value (some (.Attribute o f pos')) pos.line X.env=pure false):PS X (.Assign [.Attribute o f pos'] value pos) (A5 X.K ta tv f):=by
 intro pins s σ H D I h
 refine plainObj_wpAny_Assign_Attribute (bj (hv pins s σ H _ I h) fun u s1 y H1 I1 ry q=>bj (ha pins s1 σ H1 _ I1 q) fun ov s2 x H2 I2 rx ⟨ea,C,Tl,ex,e2,c,q2⟩=>?_) hs
 subst ex
 obtain rfl:ov=Value.ref ea:=rx
 exact zq h0 I2 e2 c ry fun s3 dx n1 n2 I3=>⟨σ,_,I3,q2 dx n1 n2⟩
end
section
variable {prog:Program} {w:World} {A:Around} {E:Value→Shared→Prop} {s:Shared} {K:PySem.W.Frag} {x C:Addr} {ox:Obj} {od:Obj}
end
section
variable {X:Cx} {o:Expr} {ta:TE} {f:Str} {pos:Pos}
end
theorem yY {K:PySem.W.Frag} {C Tl:Addr} {f:Str} {c0:Value} {dd:Option Addr} {cd:ClassData} {sl:Array (Option Value)} (l:K.lookup C=some ⟨c0,dd,.cls cd,sl⟩) (m:cd.mro=.ref C :: .ref Tl :: bmV) (h:PySem.W.hasDictIn K C=true)
   (s:PySem.W.findIn K (.ref C) "__setattr__"=some (some (.builtin "object.__setattr__"))) (a:PySem.W.findIn K (.ref C) f=some none):XSet K C Tl f:=by
 obtain ⟨cd',e,hd⟩:=PySem.W.any_some h
 have e2:PySem.W.clsIn K C=some cd:=by unfold PySem.W.clsIn; rw [l]
 rw [e2] at e
 cases e
 exact ⟨s,⟨cd,e2,m,hd⟩,by unfold PySem.W.takerIn; rw [a]; rfl⟩
theorem xW {K:PySem.W.Frag} {C fI:Addr} {o:Obj} (nm qn:Str) (N:Addr) (bs bm:List Value) (hdct:Bool) (sn:List Str) (sub:List Value) (ab:Bool) (col:Option Bool) (dd:Option Addr) (k0 k1 k2 k3 k5:Option Value) (l:K.lookup C=some o)
   (e:o=excClassObj nm qn C N bs bm hdct sn sub ab col dd k0 k1 k2 k3 k5 "ValueError.__new__") (a:PySem.W.nsOkIn K N=true) (b:PySem.W.nsIn K N "__init__"=some (some (.ref fI))) (c:PySem.W.tailIn K bmV bm=true) (d:PySem.W.isFn K (.ref fI)=true):jD K C fI:=by
 subst e
 exact ⟨_,_,_,_,_,_,_,_,_,_,_,_,_,_,_,_,l,a,b,c,d⟩
end L2
set_option Elab.async false
set_option linter.all false
set_option maxRecDepth 100000
namespace L2
open PySem
def oG (K:PySem.W.Frag) (C':Addr) (ts:TS) (tr:TH):TH:=fun D σ cls od H=>∃ C b,cls=.ref C∧PySem.W.mroIn K C (.ref C')=some b∧if b=true then ts D σ H else tr D σ cls od H
section
variable {X:Cx} {x:Str} {np pos:Pos} {C':Addr} {b0:Stmt} {suite:List Stmt} {rest:List ExceptHandler} {ts:TS} {tr:TH}
theorem A0 (c':XCls X.K C') (hg:Gl X x) (hm:X.mg x=some (.ref C')) (hb:∀ e,PSs (X.held e).nox (b0 :: suite) ts) (hr:PHs X rest tr) (hdb:(x == ("__debug__":Str))=false:=by decide) :
   PHs X (.ExceptHandler (some (.Name x np)) none (b0 :: suite) pos :: rest) (oG X.K C' ts tr):=by
 intro pins s σ H D ea T cls od I er le lt h
 obtain ⟨C,b,rfl,m,q⟩:=h
 refine wpAny_handleBy_cons (codeAny_handlers_test (dH (X:=X.held (.ref ea)) (I.held _) hg hm ?_ hdb)) (by intro z; cases z)
 obtain ⟨oe,vs,h1,h2,h3,h4,h5⟩:=id er.e
 refine jZ I.kIn ⟨oe,h1,h2⟩ c' m ?_
 cases b with
 | false=>exact hr pins s σ H D ea T _ od I er le lt (by simpa using q)
 | true =>
   rw [if_pos rfl] at q
   refine codeAny_handlers_suite (gP (fs:=frs X.stack) er fun h' er' k=>?_)
   have I1:Inv X pins σ H { s with heap:=h' }:=I.moved (tk:=s.toks) k fun b hb=>by rw [List.mem_singleton.mp hb]; exact lt.all
   have I2:=I1.held (.ref ea)
   refine wpAny_mono (hb (.ref ea) pins _ _ _ _ (I2.wish _) q) (fun f s3 z=>?_) fun _ _ z=>False.elim z
   have back:∀ {σ':St} {H':Hp},Inv (X.held (.ref ea)).nox pins σ' H' s3→Inv X pins σ' H' s3:=fun J=>J.unwish.unheld I.ok.hd
   dsimp only
   cases f with
   | next =>
     obtain ⟨σ',H',J,z⟩:=z
     exact ⟨_,H',back J,z⟩
   | brk =>
     obtain ⟨σ',H',J,z⟩:=z
     exact ⟨_,H',back J,z⟩
   | cont =>
     obtain ⟨σ',H',J,z⟩:=z
     exact ⟨_,H',back J,z⟩
   | ret u =>
     obtain ⟨v,σ',H',J,rv,z⟩:=z
     exact ⟨v,_,H',back J,rv,z⟩
end
end L2
namespace Pb
open L2 PySem
theorem yU {H:Hp} {ea dx:Addr} {a b c:HO} (ne:H ea=none) (nd:upd H ea a dx=none) (nde:dx≠ea):Same H (del (upd (upd (upd H ea a) ea b) dx c) ea):=fun q o e=>by
 have n1:q≠ea:=aY e ne
 have n2:q≠dx:=fun z=>by rw [z] at e; rw [ap nde,e] at nd; cases nd
 rw [iW n1,ap n2,ap n1,ap n1]
 exact e
structure FirstBad (m:Int) (rs:List Road) (xs:List Int) (ss:List Stp) (i:Nat):Prop where
 bef:∀ j s,j < i→ss[j]?=some s→fV m rs (da rs xs ss j) s=true
 bad:∃ s,ss[i]?=some s∧fV m rs (da rs xs ss i) s=false
theorem FirstBad.not {m:Int} {rs:List Road} {xs:List Int} {ss:List Stp} {i:Nat} (h:FirstBad m rs xs ss i) (c:jw m rs xs ss):False:=by
 obtain ⟨s,hs,hc⟩:=h.bad
 rw [c i s hs] at hc
 cases hc
theorem mG {K:PySem.W.Frag} {H:Hp}:∀ bs:List Bool,DeepAll K H (bs.map V.bl) (bs.map PyData.bool)
 | []=>.nil
 | b :: bs=>.cons (.bl b) (mG bs)
theorem ud:∀ bs cs:List Bool,PyData.eqvAll (bs.map PyData.bool) (cs.map PyData.bool)=decide (bs=cs)
 | [],[]=>by simp [PyData.eqvAll]
 | [],c :: cs=>by simp [PyData.eqvAll]
 | b :: bs,[]=>by simp [PyData.eqvAll]
 | b :: bs,c :: cs=>by
   simp only [List.map_cons,PyData.eqvAll]
   rw [ud bs cs]
   cases b <;> cases c <;> simp [PyData.eqv]
theorem pO:∀ bs:List Bool,PyData.depthAll (bs.map PyData.bool)≤1
 | []=>by simp [PyData.depthAll]
 | b :: bs=>by
   simp only [List.map_cons,PyData.depthAll]
   have:=pO bs
   have:(PyData.bool b).depth≤1:=by simp [PyData.depth]
   omega
end Pb
set_option Elab.async false
set_option linter.all false
set_option maxRecDepth 100000
namespace Pb
open L2 PySem
section
variable {m:Int} {rs:List Road}
end
section
variable {m:Int} {rs:List Road} {r:Int} {par:Int→Int} {dep:Int→Nat} {st:Int→Int} {xs ys:List Int}
def tdn (rs:List Road) (par:Int→Int) (v:Int):Int:=(bK rs (par v) v).getD 1
def iZ (rs:List Road) (par:Int→Int) (st:Int→Int) (v:Int):Int:=if 0≤st v then st v / tol rs par v else 0
def xq (st:Int→Int) (v:Int):Int:=if 0≤st v then 0 else - st v
def rf (rs:List Road) (par:Int→Int) (st:Int→Int) (v:Int):Bool:=decide (0 < iZ rs par st v)
def rq (st:Int→Int) (v:Int):Bool:=decide (st v < 0)
def wJ (rs:List Road) (par:Int→Int) (st:Int→Int) (v:Int):Stp:=(v,par v,iZ rs par st v)
def uA (par:Int→Int) (st:Int→Int) (v:Int):Stp:=(par v,v,- st v)
def fS (rs:List Road) (par:Int→Int) (st:Int→Int) (l:List Int):List Stp:=(l.filter (rf rs par st)).map (wJ rs par st)
def fP (par:Int→Int) (st:Int→Int) (l:List Int):List Stp:=(l.filter (rq st)).map (uA par st)
theorem uY {l:List Int} {v:Int} (c:rf rs par st v=true):fS rs par st (l ++ [v])=fS rs par st l ++ [wJ rs par st v]:=by
 unfold fS
 rw [List.filter_append,List.filter_cons_of_pos c,List.map_append]
 rfl
theorem vc {l:List Int} {v:Int} (c:¬ rf rs par st v=true):fS rs par st (l ++ [v])=fS rs par st l:=by
 unfold fS
 rw [List.filter_append,List.filter_cons_of_neg c,List.filter_nil,List.append_nil]
theorem va {l:List Int} {v:Int} (c:rq st v=true):fP par st (l ++ [v])=fP par st l ++ [uA par st v]:=by
 unfold fP
 rw [List.filter_append,List.filter_cons_of_pos c,List.map_append]
 rfl
theorem wR {l:List Int} {v:Int} (c:¬ rq st v=true):fP par st (l ++ [v])=fP par st l:=by
 unfold fP
 rw [List.filter_append,List.filter_cons_of_neg c,List.filter_nil,List.append_nil]
theorem yQ (g:Good m rs) (R:Rooted m rs r par dep) {v:Int} (h0:0≤v) (h1:v < m) (hr:v≠r):2≤tol rs par v∧2≤tdn rs par v:=by
 obtain ⟨k,hk,k0,_⟩:=md g R h0 h1 hr
 obtain ⟨k',hk',k0',_⟩:=me g R h0 h1 hr
 unfold tol tdn
 rw [hk,hk']
 exact ⟨k0,k0'⟩
theorem sP (st:Int→Int) (v:Int):hnd rs par v (st v)=iZ rs par st v - xq st v * tdn rs par v:=by
 unfold hnd iZ xq tol tdn
 by_cases c:0≤st v
 · rw [if_pos c,if_pos c,if_pos c]; omega
 · rw [if_neg c,if_neg c,if_neg c,Int.neg_mul]; omega
theorem zu (g:Good m rs) (R:Rooted m rs r par dep) (st:Int→Int) {v:Int} (h0:0≤v) (h1:v < m) (hr:v≠r):(0 < hnd rs par v (st v)→hnd rs par v (st v)=iZ rs par st v)∧(¬ 0 < hnd rs par v (st v)→¬ 0 < iZ rs par st v):=by
 have t2:=(yQ g R h0 h1 hr).2
 have e:=sP (rs:=rs) (par:=par) st v
 unfold iZ xq at e
 unfold iZ
 by_cases c:0≤st v
 · rw [if_pos c,if_pos c,Int.zero_mul,Int.sub_zero] at e
   rw [e,if_pos c]
   exact ⟨fun _=>rfl,fun h=>h⟩
 · rw [if_neg c,if_neg c] at e
   rw [if_neg c]
   have:0≤(- st v) * tdn rs par v:=Int.mul_nonneg (by omega) (by omega)
   exact ⟨fun h=>by omega,fun _=>by decide⟩
end
end Pb
set_option Elab.async false
set_option linter.all false
set_option maxRecDepth 100000
set_option maxHeartbeats 4000000
namespace Pk
open PySem L2 Pb
seal L2.PSs L2.PS L2.PE L2.PT L2.PW L2.PA L2.PG L2.PGs L2.PI L2.PTs L2.PC L2.PPs L2.PO
abbrev top (i:Nat):Stmt:=Hd.top i
local macro_rules | `(tactic| walk_at "rd") => `(tactic| ((try dsimp only [tYes, zD, yE, Ends.less, nj, qm, oV, oG, qI, yn, Ad, tZ, nC, wQ, rn, wb, qX, rh, yw, rG, vS, vo, sI, nA, sV, ye, yB, rR, tNext, oU, lZ, rm, rS, gNil, vz, yk, rP, zE, yq, yy, ipI, wO, q9, nY, tB, lR, tC, mf, tOp, tUn, rI0, rI, rU, rEq, rNe, nW, rQ, q0, tNil, yg, vd, tCB, tBM, uV, uC, yb, AD, yF, mP, sg, yC, rV, tf, gU, sZ, sD, xD, tOr, vC, rB, zJ, qT, tIf, List.nil_append, List.append_nil, List.set_cons_zero, List.set_cons_succ, List.getElem?_cons_zero, List.getElem?_cons_succ]); (try simp only [tYes, zD, yE, Ends.less, nj, qm, oV, oG, qI, yn, Ad, tZ, nC, wQ, rn, wb, qX, rh, yw, rG, vS, vo, sI, nA, sV, ye, yB, rR, tNext, oU, lZ, rm, rS, gNil, vz, yk, rP, zE, yq, yy, ipI, wO, q9, nY, tB, lR, tC, mf, tOp, tUn, rI0, rI, rU, rEq, rNe, yJ, yN, za, yX, zn, zh, nW, rQ, q0, tNil, yg, vd, tCB, tBM, uV, uC, yb, AD, yF, mP, sg, yC, rV, tf, gU, sZ, sD, xD, tOr, vC, rB, zJ, qT, tIf, List.nil_append, List.append_nil, List.set_cons_zero, List.set_cons_succ, List.getElem?_cons_zero, List.getElem?_cons_succ, Option.some.injEq, V.int.injEq, V.bl.injEq, V.ref.injEq, List.cons.injEq, exists_eq_left, exists_eq_left', exists_and_left, exists_const, and_true, true_and, decide_eq_true_eq, Bool.not_eq_true', decide_eq_false_iff_not, Bool.true_eq_false, Bool.false_eq_true, if_true, if_false])))
set_option genSizeOf false in
set_option genInjectivity false in
structure Txt (K:PySem.W.Frag) (mg:Str→Option Value) where
 TollError:Addr
 m_TollError:mg "TollError"=some (.ref TollError)
 BadWeb:Addr
 m_BadWeb:mg "BadWeb"=some (.ref BadWeb)
 NoPlace:Addr
 m_NoPlace:mg "NoPlace"=some (.ref NoPlace)
 NoRoad:Addr
 m_NoRoad:mg "NoRoad"=some (.ref NoRoad)
 BadLaying:Addr
 m_BadLaying:mg "BadLaying"=some (.ref BadLaying)
 BadWish:Addr
 m_BadWish:mg "BadWish"=some (.ref BadWish)
 BadStep:Addr
 m_BadStep:mg "BadStep"=some (.ref BadStep)
 Web:Addr
 m_Web:mg "Web"=some (.ref Web)
 x_TollError:XTop K TollError
 x_BadWeb:XErr K TollError BadWeb
 x_NoPlace:XErr K TollError NoPlace
 e_NoPlace:mI K NoPlace
 x_NoRoad:XErr K TollError NoRoad
 e_NoRoad:mI K NoRoad
 x_BadLaying:XErr K TollError BadLaying
 e_BadLaying:mI K BadLaying
 x_BadWish:XErr K TollError BadWish
 e_BadWish:mI K BadWish
 x_BadStep:XErr K TollError BadStep
 b_TollError:BaseIn K TollError
 s_BadStep:XSet K BadStep TollError "at"
 a_BadStep:PySem.W.findIn K (.ref BadStep) "at"=some none
 ndx:[TollError,BadWeb,NoPlace,NoRoad,BadLaying,BadWish,BadStep].Nodup
 range:mg "range"=none
 zip:mg "zip"=none
 len:mg "len"=none
 isinstance:mg "isinstance"=none
 all:mg "all"=none
 any:mg "any"=none
 int:mg "int"=none
 tuple:mg "tuple"=none
 list:mg "list"=none
 reversed:mg "reversed"=none
 sorted:mg "sorted"=none
 min:mg "min"=none
 enumerate:mg "enumerate"=none
 str:mg "str"=none
 ValueError:mg "ValueError"=none
 c_MOST_PLACES:∃ t,mg "MOST_PLACES"=some (.int 24 t)
 c_LEAST_TOLL:∃ t,mg "LEAST_TOLL"=some (.int 2 t)
 c_MOST_TOLL:∃ t,mg "MOST_TOLL"=some (.int 1000000 t)
 cl_Web:Cls K Web
 n_many:NoAttr K Web "many"
 n_roads:NoAttr K Web "roads"
section
variable {P:Program} {w:World} {K:PySem.W.Frag} {mg:Str→Option Value} {base:Heap} {CX:CXT}
/-! #### check_counts -/
def gD (T:Txt K mg):Sp:=fun vs H Q _=>∃ (m:Int) (t:Addr) (xs:List V),vs=[.int m,.ref t]∧SqT K H t xs∧1≤m∧m≤24∧(xs.length:Int)=m - 1∧Q .non H
abbrev bg:Stmt:=top 17
theorem lN:FnScope ["many","roads"] ["many","roads"] (aa bg):=FnScope.of (by kernel_rfl)
theorem eB:NmL (aa bg) "many":=.of (by kernel_rfl)
theorem gT:NmL (aa bg) "roads":=.of (by kernel_rfl)
theorem n_check_counts__MOST_PLACES:NmG (aa bg) "MOST_PLACES":=.of (by kernel_rfl)
theorem pX:NmG (aa bg) "BadWeb":=.of (by kernel_rfl)
theorem n_check_counts__len:NmG (aa bg) "len":=.of (by kernel_rfl)

theorem lL (T:Txt K mg) (hq:aL (CXe P w)) {f:Addr} {fd:FuncData} (D:Df K mg "check_counts" bg ["many","roads"] f fd):FnOk P w K mg base (CXe P w) 1 f fd ["many","roads"] (gD T):=by
 refine D.F.okC lN (fun vs H Q E h=>?_) (fun cdv A outer s H vs Q E hr h=>?_)
 · obtain ⟨m,t,xs,rfl,_⟩:=h
   rfl
 · obtain ⟨m,t,xs,rfl,ht,h1,h2,hl,k⟩:=h
   refine ⟨_,(am (aX (fw (pw kY kY ak (pvl 0 eB) (kI n_check_counts__MOST_PLACES.g T.c_MOST_PLACES (hd:=n_check_counts__MOST_PLACES.d)))) (ao eZ) aF) (ao (aX (aK n9 (bQ cC n_check_counts__len.g T.len eC (ag (pvl 1 gT) aj) (hn:=n_check_counts__len.n) (hdb:=n_check_counts__len.d)) (au gO (pvl 0 eB) ak) (aJ _)) (ao eZ) aF))),?_⟩
   rw [show L2.start ["many","roads"] [V.int m,V.ref t]=[some (V.int m),some (V.ref t)] from rfl]
   walk_at "rd"
   rw [if_pos h1,if_neg (by omega)]
   exact ⟨xs,.inr ht,by rw [if_neg (by omega)]; exact k⟩
/-! #### is_place -/
def fm (T:Txt K mg):Sp:=fun vs H Q _=>∃ m n:Int,vs=[.int m,.int n]∧Q (.bl (decide (0≤n) && decide (n < m))) H
abbrev b8:Stmt:=top 16
theorem qe:FnScope ["many","number"] ["many","number"] (aa b8):=FnScope.of (by kernel_rfl)
theorem kW:NmL (aa b8) "many":=.of (by kernel_rfl)
theorem jh:NmL (aa b8) "number":=.of (by kernel_rfl)

theorem pV (T:Txt K mg) (hq:aL (CXe P w)) {f:Addr} {fd:FuncData} (D:Df K mg "is_place" b8 ["many","number"] f fd):FnOk P w K mg base (CXe P w) 1 f fd ["many","number"] (fm T):=by
 refine D.F.okC qe (fun vs H Q E h=>?_) (fun cdv A outer s H vs Q E hr h=>?_)
 · obtain ⟨m,n,rfl,_⟩:=h
   rfl
 · obtain ⟨m,n,rfl,k⟩:=h
   refine ⟨_,(ao (aB (xT kY on ak (pvl 1 jh) (pvl 0 kW)))),?_⟩
   rw [show L2.start ["many","number"] [V.int m,V.int n]=[some (V.int m),some (V.int n)] from rfl]
   walk_at "rd"
   by_cases c:0≤n
   · simpa [c] using k
   · simpa [c] using k
/-! #### check_ends -/
def iJ (T:Txt K mg):Sp:=fun vs H Q _=>∃ (m:Int) (p:Addr) (r:Road),vs=[.int m,.ref p]∧H p=some (.tup (dQ r))∧0≤r.a∧r.a < m∧0≤r.b∧r.b < m∧r.a≠r.b∧Q .non H
abbrev bM:Stmt:=top 18
theorem nL:FnScope ["many","road"] ["many","road"] (aa bM):=FnScope.of (by kernel_rfl)
theorem fF:NmL (aa bM) "many":=.of (by kernel_rfl)
theorem cV:NmL (aa bM) "road":=.of (by kernel_rfl)
theorem n_check_ends__is_place:NmG (aa bM) "is_place":=.of (by kernel_rfl)
theorem rK:NmG (aa bM) "BadWeb":=.of (by kernel_rfl)

theorem nJ (T:Txt K mg) (hq:aL (CXe P w)) {f:Addr} {fd:FuncData} (D:Df K mg "check_ends" bM ["many","road"] f fd) {f_is_place:Addr} {fd_is_place:FuncData} (D_is_place:Df K mg "is_place" b8 ["many","number"] f_is_place fd_is_place) (G_is_place:FnOk P w K mg base (CXe P w) 1 f_is_place fd_is_place ["many","number"] (fm T)):FnOk P w K mg base (CXe P w) 2 f fd ["many","road"] (iJ T):=by
 refine D.F.okC nL (fun vs H Q E h=>?_) (fun cdv A outer s H vs Q E hr h=>?_)
 · obtain ⟨m,p,r,rfl,_⟩:=h
   rfl
 · obtain ⟨m,p,r,rfl,hp,a0,a1,b0,b1,ne,k⟩:=h
   refine ⟨_,(am (aX (PW.pt (A1 (fw (gh (aq G_is_place (hr.mono (by decide)) n_check_ends__is_place.g D_is_place.m D_is_place.F.kp D_is_place.b .nil (aS hq) (ag (pvl 0 fF) (ag (aP bF (pvl 1 cV) ak (fun _ _=>rfl)) aj)) (hdb:=n_check_ends__is_place.d)))) (zH (fw (gh (aq G_is_place (hr.mono (by decide)) n_check_ends__is_place.g D_is_place.m D_is_place.F.kp D_is_place.b .nil (aS hq) (ag (pvl 0 fF) (ag (aP bF (pvl 1 cV) ak (fun _ _=>rfl)) aj)) (hdb:=n_check_ends__is_place.d))))))) (ao eZ) aF) (ao (aX (aK bZ (aP bF (pvl 1 cV) ak (fun _ _=>rfl)) (aP bF (pvl 1 cV) ak (fun _ _=>rfl)) (aJ _)) (ao eZ) aF))),?_⟩
   rw [show L2.start ["many","road"] [V.int m,V.ref p]=[some (V.int m),some (V.ref p)] from rfl]
   walk_at "rd"
   refine ixT hp rfl ⟨m,r.a,rfl,_,rfl,?_⟩
   rw [if_neg (by simp [a0,a1])]
   refine ixT hp rfl ⟨m,r.b,rfl,_,rfl,?_⟩
   rw [if_neg (by simp [b0,b1])]
   refine ixT hp rfl (ixT hp rfl ⟨rfl,?_⟩)
   rw [if_neg (by simpa using ne)]
   exact k
/-! #### other_ends -/
def fL (T:Txt K mg):Sp:=fun vs H Q _=>∃ (t:Addr) (ps:List Addr) (rs:List Road) (n:Int),vs=[.ref t,.int n]∧SqT K H t (ps.map V.ref)∧RoadsAt H ps rs∧rs.length≤1000 ∧
 ∀ l H',H l=none→Same H H'→H' l=some (.lst ((bR rs n).map V.int))→Q (.ref l) H'
abbrev bC:Stmt:=top 21
theorem sc_other_ends:FnScope ["roads","place","ends","road"] ["roads","place"] (aa bC):=FnScope.of (by kernel_rfl)
theorem iL:NmL (aa bC) "roads":=.of (by kernel_rfl)
theorem eO:NmL (aa bC) "place":=.of (by kernel_rfl)
theorem n_other_ends__ends:NmL (aa bC) "ends":=.of (by kernel_rfl)
theorem n_other_ends__road:NmL (aa bC) "road":=.of (by kernel_rfl)

theorem nP (T:Txt K mg) (hq:aL (CXe P w)) {f:Addr} {fd:FuncData} (D:Df K mg "other_ends" bC ["roads","place"] f fd):FnOk P w K mg base (CXe P w) 1 f fd ["roads","place"] (fL T):=by
 refine D.F.okC sc_other_ends (fun vs H Q E h=>?_) (fun cdv A outer s H vs Q E hr h=>?_)
 · obtain ⟨t,ps,rs,n,rfl,_⟩:=h
   rfl
 · obtain ⟨t,ps,rs,n,rfl,ht,hp,hl,k⟩:=h
   refine ⟨_,(am (ay (i:=2) sc_other_ends.nd rfl (Or.inl n_other_ends__ends.l) (bB aj)) (am (cD PassesOwn.never rfl (jp (pvl 0 iL)) (aO (i:=3) sc_other_ends.nd rfl (Or.inl n_other_ends__road.l)) (am (aX (aK bZ (aP bF (pvl 3 n_other_ends__road) ak (fun _ _=>rfl)) (pvl 1 eO) (aJ _)) (ao (bG (dP PySem.F.plainAttrs_list PySem.F.slot_list_append PySem.F.type_list_append cq (pvl 2 n_other_ends__ends) (ag (aP bF (pvl 3 n_other_ends__road) ak (fun _ _=>rfl)) aj)))) aF) (ao (aX (aK bZ (aP bF (pvl 3 n_other_ends__road) ak (fun _ _=>rfl)) (pvl 1 eO) (aJ _)) (ao (bG (dP PySem.F.plainAttrs_list PySem.F.slot_list_append PySem.F.type_list_append cq (pvl 2 n_other_ends__ends) (ag (aP bF (pvl 3 n_other_ends__road) ak (fun _ _=>rfl)) aj)))) aF)))) (ao (aB (pvl 2 n_other_ends__ends))))),?_⟩
   rw [show L2.start ["roads","place","ends","road"] [V.ref t,V.int n]=[some (V.ref t),some (V.int n),none,none] from rfl]
   walk_at "rd"
   refine ⟨by decide,fun l hn=>?_⟩
   have hlen:ps.length=rs.length:=Paired.length hp
   refine ⟨⟨_,Same.tup (Same.new _ hn) ht⟩,my (xs:=ps.map V.ref) (fun i σ H2=>H2=upd H l (.lst ((bR (rs.take i) n).map V.int))∧∃ v,σ=[some (.ref t),some (.int n),some (.ref l),v]) ⟨rfl,_,rfl⟩ (fun i σ H2 _ z=>by rw [z.1]; exact Same.tup (Same.new _ hn) ht) ?_ ?_⟩
   · rintro i x σ H2 hi ⟨rfl,v,rfl⟩
     obtain ⟨p,r,rfl,h1,h2,h3⟩:=hp.get hi
     have np:p≠l:=aY h3 hn
     have hil:i < rs.length:=(List.getElem?_eq_some_iff.mp h2).1
     have et:rs.take (i + 1)=rs.take i ++ [r]:=by rw [List.take_succ,h2]; rfl
     have hb:(bR (rs.take i) n).length≤2000:=Nat.le_trans (ow _ _) (by rw [List.length_take]; omega)
     have hx:∀ o,upd H l o p=some (.tup (dQ r)):=fun o=>by rw [ap np]; exact h3
     walk_at "rd"
     refine ixT (hx _) rfl ?_
     walk_at "rd"
     have fin:∀ (ys:List Int),(bR (rs.take i) n ++ ys)=bR (rs.take (i + 1)) n→upd H l (.lst ((bR (rs.take i) n).map V.int ++ ys.map V.int))=upd H l (.lst ((bR (rs.take (i + 1)) n).map V.int)):=fun ys e=>by
       rw [← List.map_append,e]
     have e1:gF n r=(if r.a=n then [r.b] else []) ++ (if r.b=n then [r.a] else []):=rfl
     by_cases ca:r.a=n
     · rw [if_pos ca]
       refine ⟨tyL ah,ixT (hx _) rfl (gc ah (cr (by rw [List.length_map]; omega)) ?_)⟩
       rw [eS]
       refine ixT (hx _) rfl ?_
       walk_at "rd"
       by_cases cb:r.b=n
       · rw [if_pos cb]
         refine ⟨tyL ah,ixT (hx _) rfl (gc ah (cr (by rw [List.length_append,List.length_map]; simp; omega)) ?_)⟩
         rw [eS,List.append_assoc]
         exact ⟨fin [r.b,r.a] (by rw [et,gr,e1,if_pos ca,if_pos cb]; rfl),_,rfl⟩
       · rw [if_neg cb]
         exact ⟨fin [r.b] (by rw [et,gr,e1,if_pos ca,if_neg cb]; rfl),_,rfl⟩
     · rw [if_neg ca]
       refine ixT (hx _) rfl ?_
       walk_at "rd"
       by_cases cb:r.b=n
       · rw [if_pos cb]
         refine ⟨tyL ah,ixT (hx _) rfl (gc ah (cr (by rw [List.length_map]; omega)) ?_)⟩
         rw [eS]
         exact ⟨fin [r.a] (by rw [et,gr,e1,if_neg ca,if_pos cb]; rfl),_,rfl⟩
       · rw [if_neg cb]
         have:=fin [] (by rw [et,gr,e1,if_neg ca,if_neg cb]; rfl)
         rw [List.map_nil,List.append_nil] at this
         exact ⟨this,_,rfl⟩
   · rintro σ H2 ⟨rfl,v,rfl⟩
     rw [List.length_map,hlen,List.take_length]
     exact ⟨_,rfl,k l _ hn (Same.new _ hn) ah⟩
/-! #### check_joined -/
def dM (ks:List Int):List (Key × V):=ks.map fun k=>((Sum.inl k:Key),V.bl true)
theorem mX (ks:List Int):(dM ks).length=ks.length:=by unfold dM; rw [List.length_map]
theorem oq (ks:List Int) (e:Int):eY (dM ks) (Sum.inl e:Key)=if e∈ks then some (V.bl true) else none:=by
 unfold dM
 induction ks with
 | nil=>rfl
 | cons k ks ih =>
   rw [List.map_cons]
   by_cases c:k=e
   · rw [ii (by rw [c]),if_pos (by rw [c]; exact List.mem_cons_self)]
   · rw [im (fun z=>c (Sum.inl.inj z)),ih]
     by_cases d:e∈ks
     · rw [if_pos d,if_pos (List.mem_cons_of_mem _ d)]
     · rw [if_neg d,if_neg (fun z=>by rcases List.mem_cons.mp z with z | z; exact c z.symm; exact d z)]
theorem xg {ks:List Int} {e:Int} (h:e ∉ ks):dl (dM ks) (Sum.inl e:Key) (V.bl true)=dM (ks ++ [e]):=by
 rw [uP _ (by rw [oq,if_neg h])]
 unfold dM
 rw [List.map_append]
 rfl
def gq (T:Txt K mg):Sp:=fun vs H Q _=>∃ (m:Int) (t:Addr) (ps:List Addr) (rs:List Road),vs=[.int m,.ref t]∧SqT K H t (ps.map V.ref)∧RoadsAt H ps rs∧Good m rs∧∀ H',Same H H'→Q .non H'
abbrev aN:Stmt:=top 20
theorem sc_check_joined:FnScope ["many","roads","reached","waiting","place","end"] ["many","roads"] (aa aN):=FnScope.of (by kernel_rfl)
theorem iq:NmL (aa aN) "many":=.of (by kernel_rfl)
theorem hW:NmL (aa aN) "roads":=.of (by kernel_rfl)
theorem n_check_joined__reached:NmL (aa aN) "reached":=.of (by kernel_rfl)
theorem n_check_joined__waiting:NmL (aa aN) "waiting":=.of (by kernel_rfl)
theorem n_check_joined__place:NmL (aa aN) "place":=.of (by kernel_rfl)
theorem n_check_joined__end:NmL (aa aN) "end":=.of (by kernel_rfl)
theorem n_check_joined__other_ends:NmG (aa aN) "other_ends":=.of (by kernel_rfl)
theorem n_check_joined__len:NmG (aa aN) "len":=.of (by kernel_rfl)
theorem pU:NmG (aa aN) "BadWeb":=.of (by kernel_rfl)

theorem lC (T:Txt K mg) (hq:aL (CXe P w)) {f:Addr} {fd:FuncData} (D:Df K mg "check_joined" aN ["many","roads"] f fd) {f_other_ends:Addr} {fd_other_ends:FuncData} (D_other_ends:Df K mg "other_ends" bC ["roads","place"] f_other_ends fd_other_ends) (G_other_ends:FnOk P w K mg base (CXe P w) 1 f_other_ends fd_other_ends ["roads","place"] (fL T)):FnOk P w K mg base (CXe P w) 2 f fd ["many","roads"] (gq T):=by
 refine D.F.okC sc_check_joined (fun vs H Q E h=>?_) (fun cdv A outer s H vs Q E hr h=>?_)
 · obtain ⟨m,t,ps,rs,rfl,_⟩:=h
   rfl
 · obtain ⟨m,t,ps,rs,rfl,ht,hp,g,k⟩:=h
   have hu:=A2 hr
   refine ⟨_,(am (ay (i:=2) sc_check_joined.nd rfl (Or.inl n_check_joined__reached.l) (yI (xM ak cg yW) rfl rfl (List.cons_ne_nil _ _) (by decide))) (am (ay (i:=3) sc_check_joined.nd rfl (Or.inl n_check_joined__waiting.l) (bB (ag ak aj))) (am (kX PassesOwn.never (kU (pvl 3 n_check_joined__waiting) (fun _=>rfl)) (am (ay (i:=4) sc_check_joined.nd rfl (Or.inl n_check_joined__place.l) (oN PySem.F.plainAttrs_list PySem.F.slot_list_pop PySem.F.type_list_pop pE (pvl 3 n_check_joined__waiting))) (ao (cD PassesOwn.never rfl (eU (aq G_other_ends (hr.mono (by decide)) n_check_joined__other_ends.g D_other_ends.m D_other_ends.F.kp D_other_ends.b .nil (aS hq) (ag (pvl 1 hW) (ag (pvl 4 n_check_joined__place) aj)) (hdb:=n_check_joined__other_ends.d))) (aO (i:=5) sc_check_joined.nd rfl (Or.inl n_check_joined__end.l)) (ao (aX (Am (ua hu (pvl 5 n_check_joined__end) (pvl 2 n_check_joined__reached))) (am (yZ hu (pvl 2 n_check_joined__reached) (pvl 5 n_check_joined__end) cg rfl) (ao (bG (dP PySem.F.plainAttrs_list PySem.F.slot_list_append PySem.F.type_list_append cq (pvl 3 n_check_joined__waiting) (ag (pvl 5 n_check_joined__end) aj))))) aF)))))) (ao (aX (aK n9 (bQ tQ n_check_joined__len.g T.len eC (ag (pvl 2 n_check_joined__reached) aj) (hn:=n_check_joined__len.n) (hdb:=n_check_joined__len.d)) (pvl 0 iq) (aJ _)) (ao eZ) aF))))),?_⟩
   rw [show L2.start ["many","roads","reached","waiting","place","end"] [V.int m,V.ref t]=[some (V.int m),some (V.ref t),none,none,none,none] from rfl]
   have m1:=g.m1
   have m24:=g.m24
   have glen:=g.len
   walk_at "rd"
   intro d hd
   refine ⟨ah,[(Sum.inl 0,.bl true)],rfl,by decide,?_⟩
   rw [eS]
   refine ⟨by decide,fun w0 hw=>?_⟩
   have ed:gY [] [((Sum.inl 0:Key),V.bl true)]=dM [0]:=rfl
   rw [ed]
   have ndw:w0≠d:=fun z=>by rw [z,ah] at hw; cases hw
   have hw0:H w0=none:=by rw [ap ndw] at hw; exact hw
   refine qy (fun n σ H2=>∃ (ks ws:List Int) (v4 v5:Option V),n=2 * (m.toNat - ks.length) + ws.length∧σ=[some (.int m),some (.ref t),some (.ref d),some (.ref w0),v4,v5]∧Same H H2∧H2 d=some (.dK (dM ks))∧H2 w0=some (.lst (ws.map V.int))∧JInv m rs ks ws) _ ⟨[0],[0],none,none,rfl,rfl,?_,?_,ah,JInv.start m1⟩ ?_
   · exact Same.trans (Same.new _ hd) (Same.new _ hw)
   · rw [ap ndw.symm,ah]
   rintro n σ H2 NW hN hN2 ⟨ks,ws,v4,v5,rfl,rfl,sm,h1,h2,J⟩
   have kl:=cf (by omega) J.nd J.rng
   refine ⟨_,rfl,!(ws.map V.int).isEmpty,.inl ⟨_,SqL.of h2,rfl⟩,?_⟩
   rcases List.eq_nil_or_concat ws with rfl | ⟨ws',p,rfl⟩
   · -- nothing waits: all places have been reached
     have full:=J.all m1 g.jn
     refine Bh ?_
     walk_at "rd"
     refine ⟨dM ks,h1,?_⟩
     rw [mX,if_neg (by omega)]
     exact k _ sm
   · rw [List.concat_eq_append] at J h2 hN hN2 ⊢
     have e1:(!(List.map V.int (ws' ++ [p])).isEmpty)=true:=by simp
     rw [e1]
     refine Be ⟨NW,hN2,?_⟩
     walk_at "rd"
     rw [List.map_append,List.map_cons,List.map_nil] at h2
     refine ⟨tyL h2,xA h2 ?_⟩
     have ndw':d≠w0:=ndw.symm
     have sm2:Same H (upd H2 w0 (.lst (ws'.map V.int))):=fun b o e=>by rw [ap (aY e hw0)]; exact sm b o e
     refine ⟨t,ps,rs,p,rfl,Same.tup sm2 ht,RoadsAt.same sm2 hp,by omega,fun l H3 hn s3 hl=>?_⟩
     have nlw:w0≠l:=aY (o:=.lst (ws'.map V.int)) ah hn
     have nld:d≠l:=aY (o:=.dK (dM ks)) (by rw [ap ndw']; exact h1) hn
     have hl0:H l=none:=sm2.free hn
     refine ⟨l,rfl,⟨_,SqL.of hl⟩,jb (K:=K) (xs:=(bR rs p).map V.int) (fun i σ H4=>∃ (v5:Option V),σ=[some (.int m),some (.ref t),some (.ref d),some (.ref w0),some (.int p),v5]∧Same H H4∧H4 l=some (.lst ((bR rs p).map V.int)) ∧
       ∃ ks4 ws4:List Int,H4 d=some (.dK (dM ks4))∧H4 w0=some (.lst (ws4.map V.int))∧JMid m rs p ((bR rs p).take i) ks4 ws4 ks ws'.length) ?_ (fun i σ H4 _ z=>by obtain ⟨_,_,_,z,_⟩:=z; exact SqL.of z) ?_ ?_⟩
     · refine ⟨_,rfl,sm2.trans s3,hl,ks,ws',?_,?_,?_⟩
       · exact s3 _ _ (by rw [ap ndw']; exact h1)
       · exact s3 _ _ ah
       · rw [List.take_zero]; exact JMid.start J
     · rintro i x σ H4 NI hI hi ⟨v5,rfl,s4,hl4,ks4,ws4,hd4,hw4,M⟩
       rw [List.getElem?_map] at hi
       obtain ⟨e,he,rfl⟩:∃ e,(bR rs p)[i]?=some e∧V.int e=x:=by
         cases q:(bR rs p)[i]? with
         | none=>rw [q] at hi; cases hi
         | some e=>rw [q] at hi; exact ⟨e,rfl,Option.some.inj hi⟩
       have er:=vy g.ok (List.mem_of_getElem? he)
       have et:(bR rs p).take (i + 1)=(bR rs p).take i ++ [e]:=by rw [List.take_succ,he]; rfl
       have st:=M.step er.1 er.2
       have k4:=cf (by omega) M.nd M.rng
       have mu4:=M.mu
       walk_at "rd"
       refine ⟨_,DGet.k (k:=Sum.inl e) hd4,?_⟩
       rw [oq]
       by_cases c:e∈ks4
       · rw [if_pos c]
         rw [if_neg (by simp)]
         refine hI _ _ ⟨_,rfl,s4,hl4,ks4,ws4,hd4,hw4,?_⟩
         rw [et]
         unfold kZ at st
         rw [if_pos c] at st
         exact st
       · rw [if_neg c]
         rw [if_pos (by simp)]
         refine ⟨_,DPut.k (k:=Sum.inl e) hd4 (cr (by rw [mX]; omega)),?_⟩
         rw [xg c]
         have hw5:upd H4 d (.dK (dM (ks4 ++ [e]))) w0=some (.lst (ws4.map V.int)):=by rw [ap ndw]; exact hw4
         refine ⟨tyL hw5,gc hw5 (cr (by rw [List.length_map]; have:=M.wl; omega)) ?_⟩
         have hmid:=M.mu
         refine hI _ _ ⟨_,rfl,fun b o z=>?_,?_,ks4 ++ [e],ws4 ++ [e],?_,?_,?_⟩
         · rw [ap (aY z hw0),ap (aY z hd)]; exact s4 b o z
         · rw [ap nlw.symm,ap nld.symm]; exact hl4
         · rw [ap ndw',ah]
         · rw [ah,List.map_append]; rfl
         · rw [et]
           unfold kZ at st
           rw [if_neg c] at st
           exact st
     · rintro σ H4 ⟨v5,rfl,s4,hl4,ks4,ws4,hd4,hw4,M⟩
       rw [List.length_map,List.take_length] at M
       have k4:=cf (by omega) M.nd M.rng
       have mu4:=M.mu
       have up4:=M.up
       refine hN _ _ _ ?_ ⟨ks4,ws4,some (.int p),v5,rfl,rfl,s4,hd4,hw4,M.done⟩
       rw [List.length_append]
       simp only [List.length_cons,List.length_nil]
       omega
/-! #### check_tolls -/
def gR (T:Txt K mg):Sp:=fun vs H Q _=>∃ (p:Addr) (r:Road),vs=[.ref p]∧H p=some (.tup (dQ r))∧2≤r.t∧r.t≤1000000∧2≤r.u∧r.u≤1000000∧∀ H',Same H H'→Q .non H'
abbrev bq:Stmt:=top 19
theorem sc_check_tolls:FnScope ["road","number"] ["road"] (aa bq):=FnScope.of (by kernel_rfl)
theorem eN:NmL (aa bq) "road":=.of (by kernel_rfl)
theorem n_check_tolls__number:NmL (aa bq) "number":=.of (by kernel_rfl)
theorem n_check_tolls__LEAST_TOLL:NmG (aa bq) "LEAST_TOLL":=.of (by kernel_rfl)
theorem n_check_tolls__MOST_TOLL:NmG (aa bq) "MOST_TOLL":=.of (by kernel_rfl)
theorem qF:NmG (aa bq) "BadWeb":=.of (by kernel_rfl)

theorem mi (T:Txt K mg) (hq:aL (CXe P w)) {f:Addr} {fd:FuncData} (D:Df K mg "check_tolls" bq ["road"] f fd):FnOk P w K mg base (CXe P w) 1 f fd ["road"] (gR T):=by
 refine D.F.okC sc_check_tolls (fun vs H Q E h=>?_) (fun cdv A outer s H vs Q E hr h=>?_)
 · obtain ⟨p,r,rfl,_⟩:=h
   rfl
 · obtain ⟨p,r,rfl,hp,t0,t1,u0,u1,k⟩:=h
   refine ⟨_,(ao (cD PassesOwn.never rfl (jp (cX (ag (aP bF (pvl 0 eN) ak (fun _ _=>rfl)) (ag (aP bF (pvl 0 eN) ak (fun _ _=>rfl)) aj)))) (aO (i:=1) sc_check_tolls.nd rfl (Or.inl n_check_tolls__number.l)) (ao (aX (fw (pw kY kY (kI n_check_tolls__LEAST_TOLL.g T.c_LEAST_TOLL (hd:=n_check_tolls__LEAST_TOLL.d)) (pvl 1 n_check_tolls__number) (kI n_check_tolls__MOST_TOLL.g T.c_MOST_TOLL (hd:=n_check_tolls__MOST_TOLL.d)))) (ao eZ) aF)))),?_⟩
   rw [show L2.start ["road","number"] [V.ref p]=[some (V.ref p),none] from rfl]
   walk_at "rd"
   refine ixT hp rfl (ixT hp rfl ⟨aD (by simp),fun q hn=>?_⟩)
   have e1:upd H q (.tup [.int r.t,.int r.u]) q=some (.tup [.int r.t,.int r.u]):=ah
   refine ⟨⟨_,SqT.of e1⟩,my (K:=K) (xs:=[.int r.t,.int r.u]) (fun i σ H2=>H2=upd H q (.tup [.int r.t,.int r.u])∧∃ v,σ=[some (.ref p),v]) ⟨rfl,_,rfl⟩ (fun i σ H2 _ z=>by rw [z.1]; exact SqT.of e1) ?_ ?_⟩
   · rintro i x σ H2 hi ⟨rfl,v,rfl⟩
     have hx:∃ n:Int,x=.int n∧2≤n∧n≤1000000:=by
       match i,hi with
       | 0,hi=>exact ⟨r.t,by simpa using hi.symm,t0,t1⟩
       | 1,hi=>exact ⟨r.u,by simpa using hi.symm,u0,u1⟩
     obtain ⟨n,rfl,n0,n1⟩:=hx
     walk_at "rd"
     rw [if_pos n0,if_neg (by omega)]
     exact ⟨_,rfl⟩
   · rintro σ H2 ⟨rfl,v,rfl⟩
     exact k _ (Same.new _ hn)
/-! #### Web.__init__ -/
/-- the attributes of a web -/
def lP (m:Int) (t:Addr):List (Str × V):=dk "roads" (.ref t) (dk "many" (.int m) [])
theorem A4:¬ (("many":Str)="roads"):=by decide +kernel
theorem eJ (m:Int) (t:Addr):(lP m t).lookup ("many":Str)=some (.int m):=by
 unfold lP
 rw [dX,if_neg A4,dX,if_pos rfl]
theorem ka (m:Int) (t:Addr):(lP m t).lookup ("roads":Str)=some (.ref t):=by
 unfold lP
 rw [dX,if_pos rfl]
/-- a web of m places and the roads rs stands at p,its tuple at t,the roads' tuples at ps -/
structure WebAt (C:Addr) (H:Hp) (p:Addr) (m:Int) (t:Addr) (ps:List Addr) (rs:List Road):Prop where
 ob:∃ dx,H p=some (.ins C dx (lP m t))
 tu:H t=some (.tup (ps.map V.ref))
 ro:RoadsAt H ps rs
 go:Good m rs
theorem WebAt.same {C:Addr} {H H':Hp} {p:Addr} {m:Int} {t:Addr} {ps:List Addr} {rs:List Road} (e:Same H H') (h:WebAt C H p m t ps rs):WebAt C H' p m t ps rs :=
 ⟨let ⟨dx,q⟩:=h.ob; ⟨dx,e _ _ q⟩,e _ _ h.tu,RoadsAt.same e h.ro,h.go⟩
def eL (T:Txt K mg):Sp:=fun vs H Q _=>∃ (p dx:Addr) (m:Int) (c:Bool) (a:Addr) (ps:List Addr) (rs:List Road),vs=[.ref p,.int m,.ref a]∧H p=some (.ins T.Web dx [])∧SqX K c H a (ps.map V.ref)∧RoadsAt H ps rs∧Good m rs ∧
 ∀ t H',H t=none→WebAt T.Web H' p m t ps rs→(∀ b o,H b=some o→b≠p→H' b=some o)→Q .non H'
abbrev aM:Stmt:=qz (top 12) 0
theorem sc_Web___init__:FnScope ["self","many","roads","kept","road"] ["self","many","roads"] (aa aM):=FnScope.of (by kernel_rfl)
theorem eK:NmL (aa aM) "self":=.of (by kernel_rfl)
theorem cM:NmL (aa aM) "many":=.of (by kernel_rfl)
theorem gS:NmL (aa aM) "roads":=.of (by kernel_rfl)
theorem n_Web___init____kept:NmL (aa aM) "kept":=.of (by kernel_rfl)
theorem n_Web___init____road:NmL (aa aM) "road":=.of (by kernel_rfl)
theorem n_Web___init____tuple:NmG (aa aM) "tuple":=.of (by kernel_rfl)
theorem n_Web___init____check_counts:NmG (aa aM) "check_counts":=.of (by kernel_rfl)
theorem n_Web___init____check_ends:NmG (aa aM) "check_ends":=.of (by kernel_rfl)
theorem n_Web___init____check_tolls:NmG (aa aM) "check_tolls":=.of (by kernel_rfl)
theorem n_Web___init____check_joined:NmG (aa aM) "check_joined":=.of (by kernel_rfl)

theorem lf (T:Txt K mg) (hq:aL (CXe P w)) {f:Addr} {fd:FuncData} (F:Fun K "__init__" "Web.__init__" aM f fd) {f_check_counts:Addr} {fd_check_counts:FuncData} (D_check_counts:Df K mg "check_counts" bg ["many","roads"] f_check_counts fd_check_counts) (G_check_counts:FnOk P w K mg base (CXe P w) 1 f_check_counts fd_check_counts ["many","roads"] (gD T)) {f_check_ends:Addr} {fd_check_ends:FuncData} (D_check_ends:Df K mg "check_ends" bM ["many","road"] f_check_ends fd_check_ends) (G_check_ends:FnOk P w K mg base (CXe P w) 2 f_check_ends fd_check_ends ["many","road"] (iJ T)) {f_check_joined:Addr} {fd_check_joined:FuncData} (D_check_joined:Df K mg "check_joined" aN ["many","roads"] f_check_joined fd_check_joined) (G_check_joined:FnOk P w K mg base (CXe P w) 2 f_check_joined fd_check_joined ["many","roads"] (gq T)) {f_check_tolls:Addr} {fd_check_tolls:FuncData} (D_check_tolls:Df K mg "check_tolls" bq ["road"] f_check_tolls fd_check_tolls) (G_check_tolls:FnOk P w K mg base (CXe P w) 1 f_check_tolls fd_check_tolls ["road"] (gR T)):FnOk P w K mg base (CXe P w) 3 f fd ["self","many","roads"] (eL T):=by
 refine F.okC sc_Web___init__ (fun vs H Q E h=>?_) (fun cdv A outer s H vs Q E hr h=>?_)
 · obtain ⟨p,dx,m,c,a,ps,rs,rfl,_⟩:=h
   rfl
 · obtain ⟨p,dx,m,c,a,ps,rs,rfl,hp,ha,hro,g,k⟩:=h
   refine ⟨_,(am (ay (i:=3) sc_Web___init__.nd rfl (Or.inl n_Web___init____kept.l) (cP cJ n_Web___init____tuple.g T.tuple d6 (ag (f8 rfl (kT (Nc:=["road"]) 1 (by decide +kernel) (by decide +kernel) rfl (by decide +kernel) rfl) (tz c (pvl 2 gS)) (fun _ _ _ _=>(aO (i:=0) (show (["road"]:List Str).Nodup from by decide +kernel) rfl (Or.inl rfl))) (fun _ _ _ _=>g6) (fun _ _ _ _=>(cP (mj K rfl) (by rfl) T.tuple d6 (ag (pv 0) aj)))) aj) (hn:=n_Web___init____tuple.n) (hdb:=n_Web___init____tuple.d))) (am (bG (aq G_check_counts (hr.mono (by decide)) n_Web___init____check_counts.g D_check_counts.m D_check_counts.F.kp D_check_counts.b .nil (aS hq) (ag (pvl 1 cM) (ag (pvl 3 n_Web___init____kept) aj)) (hdb:=n_Web___init____check_counts.d))) (am (cD PassesOwn.never rfl (jp (pvl 3 n_Web___init____kept)) (aO (i:=4) sc_Web___init__.nd rfl (Or.inl n_Web___init____road.l)) (am (bG (aq G_check_ends (hr.mono (by decide)) n_Web___init____check_ends.g D_check_ends.m D_check_ends.F.kp D_check_ends.b .nil (aS hq) (ag (pvl 1 cM) (ag (pvl 4 n_Web___init____road) aj)) (hdb:=n_Web___init____check_ends.d))) (ao (bG (aq G_check_tolls (hr.mono (by decide)) n_Web___init____check_tolls.g D_check_tolls.m D_check_tolls.F.kp D_check_tolls.b .nil (aS hq) (ag (pvl 4 n_Web___init____road) aj) (hdb:=n_Web___init____check_tolls.d)))))) (am (bG (aq G_check_joined (hr.mono (by decide)) n_Web___init____check_joined.g D_check_joined.m D_check_joined.F.kp D_check_joined.b .nil (aS hq) (ag (pvl 1 cM) (ag (pvl 3 n_Web___init____kept) aj)) (hdb:=n_Web___init____check_joined.d))) (am (su (pvl 0 eK) (pvl 1 cM) rfl) (ao (su (pvl 0 eK) (pvl 3 n_Web___init____kept) rfl))))))),?_⟩
   rw [show L2.start ["self","many","roads","kept","road"] [V.ref p,V.int m,V.ref a]=[some (V.ref p),some (V.int m),some (V.ref a),none,none] from rfl]
   walk_at "rd"
   refine ⟨⟨_,ha⟩,fun l hl=>?_⟩
   have hlen:ps.length=rs.length:=Paired.length hro
   have glen:=g.len
   have m24:=g.m24
   have hl1:Same H (upd H l (.lst [])):=Same.new _ hl
   refine kM (K:=K) (xs:=ps.map V.ref) (fun i ys σ H2=>H2=upd H l (.lst ((ps.take i).map V.ref))∧ys=(ps.take i).map V.ref∧∃ v,σ=[v]) ⟨rfl,rfl,_,rfl⟩ (fun i ys σ H2 _ ⟨z,_⟩=>by rw [z]; exact Same.sqX (Same.new _ hl) ha) ?_ ?_
   · rintro i x ys σ H2 N hN hi ⟨rfl,rfl,v,rfl⟩
     obtain ⟨q,r,rfl,h1,h2,h3⟩:=hro.get hi
     have nq:q≠l:=aY h3 hl
     have hil:i < ps.length:=(List.getElem?_eq_some_iff.mp h1).1
     have et:ps.take (i + 1)=ps.take i ++ [q]:=by rw [List.take_succ,h1]; rfl
     walk_at "rd"
     refine ⟨dQ r,.inr ⟨SqT.of (by rw [ap nq]; exact h3),ah,cr (by rw [List.length_map,List.length_take]; omega),hN _ _ _ ⟨?_,?_,_,rfl⟩⟩⟩
     · rw [eS,et,List.map_append]; rfl
     · rw [et,List.map_append]; rfl
   · rintro ys σ H2 ⟨rfl,rfl,v,rfl⟩
     rw [List.length_map,List.take_length]
     refine ⟨l,rfl,ps.map V.ref,.inl ⟨SqL.of ah,fun t ht=>?_⟩⟩
     have s1:Same H (upd H l (.lst (ps.map V.ref))):=Same.new _ hl
     have s2:Same (upd H l (.lst (ps.map V.ref))) (upd (upd H l (.lst (ps.map V.ref))) t (.tup (ps.map V.ref))):=Same.new _ ht
     have ht0:H t=none:=s1.free ht
     have ht1:∀ {H':Hp},Same (upd (upd H l (.lst (ps.map V.ref))) t (.tup (ps.map V.ref))) H'→H' t=some (.tup (ps.map V.ref)):=fun e=>e _ _ ah
     refine ⟨m,t,ps.map V.ref,rfl,SqT.of ah,g.m1,g.m24,by rw [List.length_map]; omega,⟨_,SqT.of ah⟩,?_⟩
     refine oE (K:=K) (xs:=ps.map V.ref) (fun i σ H3=>Same (upd (upd H l (.lst (ps.map V.ref))) t (.tup (ps.map V.ref))) H3∧∃ v,σ=[some (.ref p),some (.int m),some (.ref a),some (.ref t),v]) ⟨Same.refl _,_,rfl⟩ (fun i σ H3 _ ⟨z,_⟩=>SqT.of (ht1 z)) ?_ ?_
     · rintro i x σ H3 N hN hi ⟨s3,v,rfl⟩
       have s03:=s1.trans (s2.trans s3)
       obtain ⟨q,r,rfl,h1,h2,h3⟩:=hro.get hi
       have ok:=g.ok r (List.mem_of_getElem? h2)
       walk_at "rd"
       refine ⟨m,q,r,rfl,s03 _ _ h3,ok.a0,ok.a1,ok.b0,ok.b1,ok.ne,?_⟩
       exact ⟨q,r,rfl,s03 _ _ h3,ok.t0,ok.t1,ok.u0,ok.u1,fun H4 s4=>hN _ _ ⟨s3.trans s4,_,rfl⟩⟩
     · rintro σ H3 ⟨s3,v,rfl⟩
       have s03:=s1.trans (s2.trans s3)
       walk_at "rd"
       refine ⟨m,t,ps,rs,rfl,SqT.of (ht1 s3),RoadsAt.same s03 hro,g,fun H4 s4=>?_⟩
       have s04:=s03.trans s4
       have ntp:t≠p:=fun z=>by rw [z,hp] at ht0; cases ht0
       refine ⟨T.Web,dx,[],s04 _ _ hp,T.cl_Web,T.n_many,by decide,?_⟩
       refine ⟨T.Web,dx,_,ah,T.cl_Web,T.n_roads,by show 1 < 1000; decide,?_⟩
       rw [eS]
       refine k t _ ht0 ⟨⟨dx,ah⟩,?_,?_,g⟩ fun b o hb nb=>?_
       · rw [ap ntp]; exact ht1 (s3.trans s4)
       · refine Paired.imp' (fun q r hq=>?_) hro
         rw [ap (eu hq hp (by intro z; cases z))]
         exact s04 _ _ hq
       · rw [ap nb]; exact s04 _ _ hb
/-- Web(m,roads),at a call: nothing is changed,a new web stands -/
theorem Au (T:Txt K mg) {H:Hp} {m:Int} {c:Bool} {a:Addr} {ps:List Addr} {rs:List Road} {Q:Addr→Hp→Prop} (ha:SqX K c H a (ps.map V.ref)) (ro:RoadsAt H ps rs) (g:Good m rs)
   (k:∀ x t H',H x=none→H t=none→Same H H'→WebAt T.Web H' x m t ps rs→Q x H') :
   ∀ x dx,H x=none→H dx=none→dx≠x→eL T [.ref x,.int m,.ref a] (upd (upd H dx (.own x)) x (.ins T.Web dx [])) (fun v H2=>v=.non∧Q x H2) E0:=by
 intro x dx hx hdx ne
 have hx1:upd H dx (.own x) x=none:=by rw [ap ne.symm]; exact hx
 have s0:Same H (upd (upd H dx (.own x)) x (.ins T.Web dx [])):=(Same.new _ hdx).trans (Same.new _ hx1)
 exact ⟨x,dx,m,c,a,ps,rs,rfl,ah,Same.sqX s0 ha,RoadsAt.same s0 ro,g,fun t H' ht W kp=>⟨rfl,k x t H' hx (s0.free ht) (fun b o e=>kp b o (s0 b o e) (aY e hx)) W⟩⟩
/-! #### _law_drawn -/
theorem oz (c i:Int) (i0:0≤i) (i1:i≤1000):CMul 7919 i∧CMul (c % 998244353 + 7919 * i + 11) 48271∧CMul ((c % 998244353 + 7919 * i + 11) * 48271 % 2147483647) ((c % 998244353 + 7919 * i + 11) * 48271 % 2147483647)∧CMul (((c % 998244353 + 7919 * i + 11) * 48271 % 2147483647) * ((c % 998244353 + 7919 * i + 11) * 48271 % 2147483647) % 2147483629) (((c % 998244353 + 7919 * i + 11) * 48271 % 2147483647) * ((c % 998244353 + 7919 * i + 11) * 48271 % 2147483647) % 2147483629)∧CMul ((((c % 998244353 + 7919 * i + 11) * 48271 % 2147483647) * ((c % 998244353 + 7919 * i + 11) * 48271 % 2147483647) % 2147483629) * (((c % 998244353 + 7919 * i + 11) * 48271 % 2147483647) * ((c % 998244353 + 7919 * i + 11) * 48271 % 2147483647) % 2147483629)) (((c % 998244353 + 7919 * i + 11) * 48271 % 2147483647) + 12345678901)∧Ab ((((c % 998244353 + 7919 * i + 11) * 48271 % 2147483647) * ((c % 998244353 + 7919 * i + 11) * 48271 % 2147483647) % 2147483629) * (((c % 998244353 + 7919 * i + 11) * 48271 % 2147483647) * ((c % 998244353 + 7919 * i + 11) * 48271 % 2147483647) % 2147483629) * (((c % 998244353 + 7919 * i + 11) * 48271 % 2147483647) + 12345678901)) 7∧0≤(((c % 998244353 + 7919 * i + 11) * 48271 % 2147483647) * ((c % 998244353 + 7919 * i + 11) * 48271 % 2147483647) % 2147483629) * (((c % 998244353 + 7919 * i + 11) * 48271 % 2147483647) * ((c % 998244353 + 7919 * i + 11) * 48271 % 2147483647) % 2147483629) * (((c % 998244353 + 7919 * i + 11) * 48271 % 2147483647) + 12345678901) / 7:=by
 have h3:=Int.emod_nonneg ((c % 998244353 + 7919 * i + 11) * 48271) (show (2147483647:Int)≠0 by decide)
 have h4:=Int.emod_lt_of_pos ((c % 998244353 + 7919 * i + 11) * 48271) (show (0:Int) < 2147483647 by decide)
 generalize (c % 998244353 + 7919 * i + 11) * 48271 % 2147483647=n at h3 h4 ⊢
 have h5:=Int.emod_nonneg (n * n) (show (2147483629:Int)≠0 by decide)
 have h6:=Int.emod_lt_of_pos (n * n) (show (0:Int) < 2147483629 by decide)
 generalize n * n % 2147483629=f at h5 h6 ⊢
 refine ⟨.inl ⟨by decide,by decide⟩,.inr ⟨by decide,by decide⟩,.inl ⟨by omega,by omega⟩,.inl ⟨by omega,by omega⟩,.inr ⟨by omega,by omega⟩,⟨by decide,by decide⟩,?_⟩
 exact Int.ediv_nonneg (Int.mul_nonneg (Int.mul_nonneg h5 h5) (by omega)) (by decide)
def cQ (T:Txt K mg):Sp:=fun vs H Q _=>∃ (a:Addr) (ns:List Int) (k:Int),vs=[.ref a,.int k]∧SqL K H a (ns.map V.int)∧0≤k∧k≤1000∧∀ v,0≤v→Q (.int v) H
abbrev aU:Stmt:=top 51
theorem sc_law_drawn:FnScope ["script","k","cell","near","far"] ["script","k"] (aa aU):=FnScope.of (by kernel_rfl)
theorem cS:NmL (aa aU) "script":=.of (by kernel_rfl)
theorem fh:NmL (aa aU) "k":=.of (by kernel_rfl)
theorem n_law_drawn__cell:NmL (aa aU) "cell":=.of (by kernel_rfl)
theorem n_law_drawn__near:NmL (aa aU) "near":=.of (by kernel_rfl)
theorem n_law_drawn__far:NmL (aa aU) "far":=.of (by kernel_rfl)
theorem n_law_drawn__len:NmG (aa aU) "len":=.of (by kernel_rfl)

theorem oX (T:Txt K mg) (hq:aL (CXe P w)) {f:Addr} {fd:FuncData} (D:Df K mg "_law_drawn" aU ["script","k"] f fd):FnOk P w K mg base (CXe P w) 1 f fd ["script","k"] (cQ T):=by
 refine D.F.okC sc_law_drawn (fun vs H Q E h=>?_) (fun cdv A outer s H vs Q E hr h=>?_)
 · obtain ⟨a,ns,i,rfl,_⟩:=h
   rfl
 · obtain ⟨a,ns,i,rfl,ha,i0,i1,k⟩:=h
   refine ⟨_,(am (ay (i:=2) sc_law_drawn.nd rfl (Or.inl n_law_drawn__cell.l) ak) (am (aX (aK on (pvl 1 fh) (bQ cC n_law_drawn__len.g T.len eC (ag (pvl 0 cS) aj) (hn:=n_law_drawn__len.n) (hdb:=n_law_drawn__len.d)) (aJ _)) (ao (ay (i:=2) sc_law_drawn.nd rfl (Or.inl n_law_drawn__cell.l) (au aQ (aP bO (pvl 0 cS) (pvl 1 fh) (fun _ _=>rfl)) (au dG ak ak)))) aF) (am (aX (PW.pt (lD (aK yo (bQ cC n_law_drawn__len.g T.len eC (ag (pvl 0 cS) aj) (hn:=n_law_drawn__len.n) (hdb:=n_law_drawn__len.d)) ak (aJ _)) (jJ (aK bZ (au aQ (aP bO (pvl 0 cS) ak (fun _ _=>rfl)) ak) ak (aJ _))))) (am (ay (i:=3) sc_law_drawn.nd rfl (Or.inl n_law_drawn__near.l) (au aQ (au eI (au dC (au dC (au aQ (pvl 2 n_law_drawn__cell) ak) (au eI ak (pvl 1 fh))) ak) ak) ak)) (am (ay (i:=4) sc_law_drawn.nd rfl (Or.inl n_law_drawn__far.l) (au aQ (au eI (pvl 3 n_law_drawn__near) (pvl 3 n_law_drawn__near)) ak)) (ao (ay (i:=2) sc_law_drawn.nd rfl (Or.inl n_law_drawn__cell.l) (au bH (au eI (au eI (pvl 4 n_law_drawn__far) (pvl 4 n_law_drawn__far)) (au dC (pvl 3 n_law_drawn__near) ak)) ak))))) aF) (ao (aB (pvl 2 n_law_drawn__cell)))))),?_⟩
   rw [show L2.start ["script","k","cell","near","far"] [V.ref a,V.int i]=[some (V.ref a),some (V.int i),none,none,none] from rfl]
   walk_at "rd"
   refine ⟨_,.inl ha,?_⟩
   rw [List.length_map]
   by_cases z:i < (ns.length:Int)
   · rw [if_pos z]
     refine ixS ha (atG i0 z) ⟨⟨by decide,by decide,by decide⟩,_,rfl,p60,?_⟩
     have c0:=Int.emod_nonneg (ns.getD i.toNat 0) (Int.ne_of_gt p60)
     generalize ns.getD i.toNat 0 % 10 ^ Int.toNat 60=c at c0 ⊢
     obtain ⟨h1,h2,h3,h4,h5,h6,h7⟩:=oz c i i0 i1
     refine ⟨_,.inl ha,?_⟩
     rw [List.length_map,if_pos (by omega)]
     refine ixS ha (atG (by decide) (by omega)) ⟨_,rfl,by decide,?_⟩
     by_cases y:ns.getD (0:Int).toNat 0 % 2=1
     · rw [if_pos y]
       exact ⟨by decide,h1,h2,by decide,h3,by decide,h4,h5,h6,k _ h7⟩
     · rw [if_neg y]
       exact k _ c0
   · rw [if_neg z]
     obtain ⟨h1,h2,h3,h4,h5,h6,h7⟩:=oz 0 i i0 i1
     refine ⟨_,.inl ha,?_⟩
     rw [List.length_map]
     by_cases x:0 < (ns.length:Int)
     · rw [if_pos x]
       refine ixS ha (atG (by decide) x) ⟨_,rfl,by decide,?_⟩
       by_cases y:ns.getD (0:Int).toNat 0 % 2=1
       · rw [if_pos y]
         exact ⟨by decide,h1,h2,by decide,h3,by decide,h4,h5,h6,k _ h7⟩
       · rw [if_neg y]
         exact k 0 (by decide)
     · rw [if_neg x]
       exact k 0 (by decide)
/-! #### _law_bound -/
def jg (T:Txt K mg):Sp:=fun vs H Q _=>∃ (a:Addr) (ns:List Int),vs=[.ref a]∧SqL K H a (ns.map V.int)∧∀ b H',1≤b→Same H H'→Q (.int b) H'
abbrev b7:Stmt:=top 55
theorem sc_law_bound:FnScope ["script","head"] ["script"] (aa b7):=FnScope.of (by kernel_rfl)
theorem iK:NmL (aa b7) "script":=.of (by kernel_rfl)
theorem n_law_bound__head:NmL (aa b7) "head":=.of (by kernel_rfl)
theorem n_law_bound__law_drawn:NmG (aa b7) "_law_drawn":=.of (by kernel_rfl)

theorem py (T:Txt K mg) (hq:aL (CXe P w)) {f:Addr} {fd:FuncData} (D:Df K mg "_law_bound" b7 ["script"] f fd) {f_law_drawn:Addr} {fd_law_drawn:FuncData} (D_law_drawn:Df K mg "_law_drawn" aU ["script","k"] f_law_drawn fd_law_drawn) (G_law_drawn:FnOk P w K mg base (CXe P w) 1 f_law_drawn fd_law_drawn ["script","k"] (cQ T)):FnOk P w K mg base (CXe P w) 2 f fd ["script"] (jg T):=by
 refine D.F.okC sc_law_bound (fun vs H Q E h=>?_) (fun cdv A outer s H vs Q E hr h=>?_)
 · obtain ⟨a,ns,rfl,_⟩:=h
   rfl
 · obtain ⟨a,ns,rfl,ha,k⟩:=h
   refine ⟨_,(am (ay (i:=1) sc_law_bound.nd rfl (Or.inl n_law_bound__head.l) (au bH (aq G_law_drawn (hr.mono (by decide)) n_law_bound__law_drawn.g D_law_drawn.m D_law_drawn.F.kp D_law_drawn.b .nil (aS hq) (ag (pvl 0 iK) (ag ak aj)) (hdb:=n_law_bound__law_drawn.d)) ak)) (ao (aB (aP bO (bB (ag ak (ag ak (ag ak (ag (au dG ak ak) aj))))) (au aQ (pvl 1 n_law_bound__head) ak) (fun _ _=>rfl))))),?_⟩
   rw [show L2.start ["script","head"] [V.ref a]=[some (V.ref a),none] from rfl]
   walk_at "rd"
   refine ⟨a,ns,0,rfl,ha,by decide,by decide,fun c c0=>⟨c,rfl,⟨by decide,by decide⟩,⟨by decide,by decide,by decide⟩,aD (by simp),fun q nq=>⟨by decide,?_⟩⟩⟩
   have h1:=Int.emod_nonneg (c / 1200) (show (4:Int)≠0 by decide)
   have h2:=Int.emod_lt_of_pos (c / 1200) (show (0:Int) < 4 by decide)
   generalize c / 1200 % 4=j at h1 h2 ⊢
   rcases (show j=0∨j=1∨j=2∨j=3 by omega) with z | z | z | z
   · rw [z]; exact ixL ah rfl (k _ _ (by decide) (Same.new _ nq))
   · rw [z]; exact ixL ah rfl (k _ _ (by decide) (Same.new _ nq))
   · rw [z]; exact ixL ah rfl (k _ _ (by decide) (Same.new _ nq))
   · rw [z]; exact ixL ah rfl (k _ _ p60 (Same.new _ nq))
/-! #### check_place -/
def dJ (T:Txt K mg):Sp:=fun vs H Q E=>∃ (p t:Addr) (m:Int) (ps:List Addr) (rs:List Road) (n:Int),vs=[.ref p,.int n]∧WebAt T.Web H p m t ps rs∧(0≤n→n < m→Q .non H)∧(¬ (0≤n∧n < m)→E (.ref T.NoPlace) none H)
abbrev bi:Stmt:=top 15
theorem mC:FnScope ["web","number"] ["web","number"] (aa bi):=FnScope.of (by kernel_rfl)
theorem jr:NmL (aa bi) "web":=.of (by kernel_rfl)
theorem hG:NmL (aa bi) "number":=.of (by kernel_rfl)
theorem n_check_place__is_place:NmG (aa bi) "is_place":=.of (by kernel_rfl)
theorem n_check_place__NoPlace:NmG (aa bi) "NoPlace":=.of (by kernel_rfl)

theorem mm (T:Txt K mg) (hq:aL (CXe P w)) {f:Addr} {fd:FuncData} (D:Df K mg "check_place" bi ["web","number"] f fd) {f_is_place:Addr} {fd_is_place:FuncData} (D_is_place:Df K mg "is_place" b8 ["many","number"] f_is_place fd_is_place) (G_is_place:FnOk P w K mg base (CXe P w) 1 f_is_place fd_is_place ["many","number"] (fm T)):FnOk P w K mg base (CXe P w) 2 f fd ["web","number"] (dJ T):=by
 refine D.F.okX mC (fun vs H Q E h=>?_) (fun cdv A outer s H vs Q E hr h=>?_)
 · obtain ⟨p,t,m,ps,rs,n,rfl,_⟩:=h
   rfl
 · obtain ⟨p,t,m,ps,rs,n,rfl,W,k,e⟩:=h
   obtain ⟨dx,ob⟩:=W.ob
   refine ⟨_,(ao (aX (fw (gh (aq G_is_place (hr.mono (by decide)) n_check_place__is_place.g D_is_place.m D_is_place.F.kp D_is_place.b .nil bh (ag (fG  (pvl 0 jr) rfl) (ag (pvl 1 hG) aj)) (hdb:=n_check_place__is_place.d)))) (ao (ie T.e_NoPlace rfl jO n_check_place__NoPlace.g T.m_NoPlace (ag eA aj) (hdb:=n_check_place__NoPlace.d))) aF)),?_⟩
   rw [show L2.start ["web","number"] [V.ref p,V.int n]=[some (V.ref p),some (V.int n)] from rfl]
   walk_at "rd"
   refine ⟨T.Web,dx,_,ob,T.cl_Web,T.n_many,_,eJ m t,m,n,rfl,_,rfl,?_⟩
   by_cases c:0≤n∧n < m
   · rw [if_neg (by simp [c.1,c.2])]
     exact k c.1 c.2
   · rw [if_pos (by simpa [Bool.and_eq_true] using c)]
     exact ⟨by decide,e c⟩
/-! #### toll -/
def mw (T:Txt K mg):Sp:=fun vs H Q E=>∃ (p t:Addr) (m:Int) (ps:List Addr) (rs:List Road) (a b:Int),vs=[.ref p,.int a,.int b]∧WebAt T.Web H p m t ps rs ∧
 (∀ k,0≤a→a < m→0≤b→b < m→bK rs a b=some k→Q (.int k) H)∧(¬ ((0≤a∧a < m)∧(0≤b∧b < m))→E (.ref T.NoPlace) none H)∧(0≤a→a < m→0≤b→b < m→bK rs a b=none→E (.ref T.NoRoad) none H)
abbrev cz:Stmt:=top 13
theorem sc_toll:FnScope ["web","a","b","one","other","there","back"] ["web","a","b"] (aa cz):=FnScope.of (by kernel_rfl)
theorem gL:NmL (aa cz) "web":=.of (by kernel_rfl)
theorem iU:NmL (aa cz) "a":=.of (by kernel_rfl)
theorem jo:NmL (aa cz) "b":=.of (by kernel_rfl)
theorem n_toll__one:NmL (aa cz) "one":=.of (by kernel_rfl)
theorem n_toll__other:NmL (aa cz) "other":=.of (by kernel_rfl)
theorem n_toll__there:NmL (aa cz) "there":=.of (by kernel_rfl)
theorem n_toll__back:NmL (aa cz) "back":=.of (by kernel_rfl)
theorem n_toll__check_place:NmG (aa cz) "check_place":=.of (by kernel_rfl)
theorem n_toll__NoRoad:NmG (aa cz) "NoRoad":=.of (by kernel_rfl)

theorem yV (T:Txt K mg) (hq:aL (CXe P w)) {f:Addr} {fd:FuncData} (D:Df K mg "toll" cz ["web","a","b"] f fd) {f_check_place:Addr} {fd_check_place:FuncData} (D_check_place:Df K mg "check_place" bi ["web","number"] f_check_place fd_check_place) (G_check_place:FnOk P w K mg base (CXe P w) 2 f_check_place fd_check_place ["web","number"] (dJ T)):FnOk P w K mg base (CXe P w) 3 f fd ["web","a","b"] (mw T):=by
 refine D.F.okX sc_toll (fun vs H Q E h=>?_) (fun cdv A outer s H vs Q E hr h=>?_)
 · obtain ⟨p,t,m,ps,rs,a,b,rfl,_⟩:=h
   rfl
 · obtain ⟨p,t,m,ps,rs,a,b,rfl,W,k,e1,e2⟩:=h
   obtain ⟨dx,ob⟩:=W.ob
   refine ⟨_,(am (bG (aq G_check_place (hr.mono (by decide)) n_toll__check_place.g D_check_place.m D_check_place.F.kp D_check_place.b .nil bh (ag (pvl 0 gL) (ag (pvl 1 iU) aj)) (hdb:=n_toll__check_place.d))) (am (bG (aq G_check_place (hr.mono (by decide)) n_toll__check_place.g D_check_place.m D_check_place.F.kp D_check_place.b .nil bh (ag (pvl 0 gL) (ag (pvl 2 jo) aj)) (hdb:=n_toll__check_place.d))) (am (cD PassesOwn.leaving rfl (jp (fG  (pvl 0 gL) rfl)) (gk (n:=4) rfl (bX (aO (i:=3) sc_toll.nd rfl (Or.inl n_toll__one.l)) (bX (aO (i:=4) sc_toll.nd rfl (Or.inl n_toll__other.l)) (bX (aO (i:=5) sc_toll.nd rfl (Or.inl n_toll__there.l)) (bX (aO (i:=6) sc_toll.nd rfl (Or.inl n_toll__back.l)) fe))))) (am (aX (PW.pt (lD (aK bZ (pvl 3 n_toll__one) (pvl 1 iU) (aJ _)) (jJ (aK bZ (pvl 4 n_toll__other) (pvl 2 jo) (aJ _))))) (ao (aB (pvl 5 n_toll__there))) aF) (ao (aX (PW.pt (lD (aK bZ (pvl 3 n_toll__one) (pvl 2 jo) (aJ _)) (jJ (aK bZ (pvl 4 n_toll__other) (pvl 1 iU) (aJ _))))) (ao (aB (pvl 6 n_toll__back))) aF)))) (ao (ie T.e_NoRoad rfl jO n_toll__NoRoad.g T.m_NoRoad (ag eA aj) (hdb:=n_toll__NoRoad.d)))))),?_⟩
   rw [show L2.start ["web","a","b","one","other","there","back"] [V.ref p,V.int a,V.int b]=[some (V.ref p),some (V.int a),some (V.int b),none,none,none,none] from rfl]
   walk_at "rd"
   refine ⟨p,t,m,ps,rs,a,rfl,W,fun a0 a1=>?_,fun z=>e1 fun w=>z w.1⟩
   refine ⟨p,t,m,ps,rs,b,rfl,W,fun b0 b1=>?_,fun z=>e1 fun w=>z w.2⟩
   refine ⟨T.Web,dx,_,ob,T.cl_Web,T.n_roads,_,ka m t,t,rfl,⟨_,SqT.of W.tu⟩,?_⟩
   have hlen:ps.length=rs.length:=Paired.length W.ro
   refine oE (K:=K) (xs:=ps.map V.ref) (fun i σ H2=>H2=H∧bK (rs.take i) a b=none∧∃ v1 v2 v3 v4,σ=[some (V.ref p),some (V.int a),some (V.int b),v1,v2,v3,v4]) ⟨rfl,rfl,_,_,_,_,rfl⟩ (fun i σ H2 _ z=>by rw [z.1]; exact SqT.of W.tu) ?_ ?_
   · rintro i x σ H2 N hN hx ⟨rfl,hno,v1,v2,v3,v4,rfl⟩
     obtain ⟨q,r,rfl,h1,h2,h3⟩:=W.ro.get hx
     have et:rs.take (i + 1)=rs.take i ++ [r]:=by rw [List.take_succ,h2]; rfl
     have split:bK rs a b=(bK (rs.take i) a b).or ((c9 a b r).or (bK (rs.drop (i + 1)) a b)):=by
       have:rs=rs.take i ++ r :: rs.drop (i + 1):=by
         have hil:i < rs.length:=(List.getElem?_eq_some_iff.mp h2).1
         have e:rs[i]=r:=by rw [List.getElem?_eq_getElem hil] at h2; exact Option.some.inj h2
         rw [← e,List.getElem_cons_drop,List.take_append_drop]
       conv=>lhs; rw [this]
       unfold bK
       rw [List.findSome?_append,List.findSome?_cons]
       cases c9 a b r <;> rfl
     rw [hno,Option.none_or] at split
     walk_at "rd"
     refine ⟨_,SqT.of h3,rfl,_,_,rfl,_,_,rfl,_,_,rfl,_,_,rfl,rfl,?_⟩
     walk_at "rd"
     have next:c9 a b r=none→N [some (V.ref p),some (V.int a),some (V.int b),some (V.int r.a),some (V.int r.b),some (V.int r.t),some (V.int r.u)] H2:=fun z=>hN _ _ ⟨rfl,by
       rw [et]
       unfold bK at hno ⊢
       rw [List.findSome?_append,hno,List.findSome?_cons,z]
       rfl,_,_,_,_,rfl⟩
     have got:∀ v,c9 a b r=some v→bK rs a b=some v:=fun v z=>by rw [split,z]; rfl
     unfold c9 at next got
     split
     · rename_i c1
       split
       · rename_i c2
         exact k _ a0 a1 b0 b1 (got _ (by rw [if_pos ⟨c1,c2⟩]))
       · rename_i c2
         split
         · rename_i c3
           split
           · rename_i c4
             exact k _ a0 a1 b0 b1 (got _ (by rw [if_neg (fun z=>c2 z.2),if_pos ⟨c3,c4⟩]))
           · rename_i c4
             exact next (by rw [if_neg (fun z=>c2 z.2),if_neg (fun z=>c4 z.2)])
         · rename_i c3
           exact next (by rw [if_neg (fun z=>c2 z.2),if_neg (fun z=>c3 z.1)])
     · rename_i c1
       split
       · rename_i c3
         split
         · rename_i c4
           exact k _ a0 a1 b0 b1 (got _ (by rw [if_neg (fun z=>c1 z.1),if_pos ⟨c3,c4⟩]))
         · rename_i c4
           exact next (by rw [if_neg (fun z=>c1 z.1),if_neg (fun z=>c4 z.2)])
       · rename_i c3
         exact next (by rw [if_neg (fun z=>c1 z.1),if_neg (fun z=>c3 z.1)])
   · rintro σ H2 ⟨rfl,hno,v1,v2,v3,v4,rfl⟩
     rw [List.length_map,hlen,List.take_length] at hno
     walk_at "rd"
     exact ⟨by decide,e2 a0 a1 b0 b1 hno⟩
/-! #### handed_on -/
def gm (T:Txt K mg):Sp:=fun vs H Q _=>∃ (p t:Addr) (m:Int) (ps:List Addr) (rs:List Road) (x v u k1 k2:Int),vs=[.ref p,.int x,.int v,.int u]∧WebAt T.Web H p m t ps rs∧(0≤v∧v < m)∧(0≤u∧u < m)∧bK rs v u=some k1∧bK rs u v=some k2∧(2≤k1∧k1≤1000000)∧(2≤k2∧k2≤1000000)∧Q (.int (if 0≤x then x / k1 else x * k2)) H
abbrev bE:Stmt:=top 41
theorem pP:FnScope ["web","over","place","front"] ["web","over","place","front"] (aa bE):=FnScope.of (by kernel_rfl)
theorem f9:NmL (aa bE) "web":=.of (by kernel_rfl)
theorem dU:NmL (aa bE) "over":=.of (by kernel_rfl)
theorem fE:NmL (aa bE) "place":=.of (by kernel_rfl)
theorem fB:NmL (aa bE) "front":=.of (by kernel_rfl)
theorem n_handed_on__toll:NmG (aa bE) "toll":=.of (by kernel_rfl)

theorem pH (T:Txt K mg) (hq:aL (CXe P w)) {f:Addr} {fd:FuncData} (D:Df K mg "handed_on" bE ["web","over","place","front"] f fd) {f_toll:Addr} {fd_toll:FuncData} (D_toll:Df K mg "toll" cz ["web","a","b"] f_toll fd_toll) (G_toll:FnOk P w K mg base (CXe P w) 3 f_toll fd_toll ["web","a","b"] (mw T)):FnOk P w K mg base (CXe P w) 4 f fd ["web","over","place","front"] (gm T):=by
 refine D.F.okX pP (fun vs H Q E h=>?_) (fun cdv A outer s H vs Q E hr h=>?_)
 · obtain ⟨p,t,m,ps,rs,x,v,u,k1,k2,rfl,_⟩:=h
   rfl
 · obtain ⟨p,t,m,ps,rs,x,v,u,k1,k2,rfl,W,vr,ur,h1,h2,kr1,kr2,k⟩:=h
   refine ⟨_,(am (aX (aK jL (pvl 1 dU) ak (aJ _)) (ao (aB (au bH (pvl 1 dU) (aq G_toll (hr.mono (by decide)) n_handed_on__toll.g D_toll.m D_toll.F.kp D_toll.b .nil bh (ag (pvl 0 f9) (ag (pvl 2 fE) (ag (pvl 3 fB) aj))) (hdb:=n_handed_on__toll.d))))) aF) (ao (aB (au eI (pvl 1 dU) (aq G_toll (hr.mono (by decide)) n_handed_on__toll.g D_toll.m D_toll.F.kp D_toll.b .nil bh (ag (pvl 0 f9) (ag (pvl 3 fB) (ag (pvl 2 fE) aj))) (hdb:=n_handed_on__toll.d)))))),?_⟩
   rw [show L2.start ["web","over","place","front"] [V.ref p,V.int x,V.int v,V.int u]=[some (V.ref p),some (V.int x),some (V.int v),some (V.int u)] from rfl]
   walk_at "rd"
   by_cases c:0≤x
   · rw [if_pos c] at k ⊢
     refine ⟨p,t,m,ps,rs,v,u,rfl,W,fun k' _ _ _ _ h=>?_,fun z=>absurd ⟨vr,ur⟩ z,fun _ _ _ _ z=>by rw [h1] at z; cases z⟩
     rw [h1] at h
     cases h
     exact ⟨_,rfl,⟨by omega,by omega⟩,k⟩
   · rw [if_neg c] at k ⊢
     refine ⟨p,t,m,ps,rs,u,v,rfl,W,fun k' _ _ _ _ h=>?_,fun z=>absurd ⟨ur,vr⟩ z,fun _ _ _ _ z=>by rw [h2] at z; cases z⟩
     rw [h2] at h
     cases h
     exact ⟨_,rfl,.inr ⟨by omega,by omega⟩,k⟩
/-! #### neighbours -/
def fQ (T:Txt K mg):Sp:=fun vs H Q E=>∃ (p t:Addr) (m:Int) (ps:List Addr) (rs:List Road) (a:Int),vs=[.ref p,.int a]∧WebAt T.Web H p m t ps rs ∧
 (∀ l H',0≤a→a < m→H l=none→Same H H'→H' l=some (.lst ((dh m rs a).map V.int))→Q (.ref l) H')∧(¬ (0≤a∧a < m)→E (.ref T.NoPlace) none H)
abbrev bA:Stmt:=top 14
theorem nV:FnScope ["web","a"] ["web","a"] (aa bA):=FnScope.of (by kernel_rfl)
theorem fT:NmL (aa bA) "web":=.of (by kernel_rfl)
theorem gB:NmL (aa bA) "a":=.of (by kernel_rfl)
theorem n_neighbours__check_place:NmG (aa bA) "check_place":=.of (by kernel_rfl)
theorem n_neighbours__sorted:NmG (aa bA) "sorted":=.of (by kernel_rfl)
theorem n_neighbours__other_ends:NmG (aa bA) "other_ends":=.of (by kernel_rfl)

theorem nO (T:Txt K mg) (hq:aL (CXe P w)) {f:Addr} {fd:FuncData} (D:Df K mg "neighbours" bA ["web","a"] f fd) {f_check_place:Addr} {fd_check_place:FuncData} (D_check_place:Df K mg "check_place" bi ["web","number"] f_check_place fd_check_place) (G_check_place:FnOk P w K mg base (CXe P w) 2 f_check_place fd_check_place ["web","number"] (dJ T)) {f_other_ends:Addr} {fd_other_ends:FuncData} (D_other_ends:Df K mg "other_ends" bC ["roads","place"] f_other_ends fd_other_ends) (G_other_ends:FnOk P w K mg base (CXe P w) 1 f_other_ends fd_other_ends ["roads","place"] (fL T)):FnOk P w K mg base (CXe P w) 3 f fd ["web","a"] (fQ T):=by
 refine D.F.okX nV (fun vs H Q E h=>?_) (fun cdv A outer s H vs Q E hr h=>?_)
 · obtain ⟨p,t,m,ps,rs,a,rfl,_⟩:=h
   rfl
 · obtain ⟨p,t,m,ps,rs,a,rfl,W,k,e⟩:=h
   obtain ⟨dx,ob⟩:=W.ob
   refine ⟨_,(am (bG (aq G_check_place (hr.mono (by decide)) n_neighbours__check_place.g D_check_place.m D_check_place.F.kp D_check_place.b .nil bh (ag (pvl 0 fT) (ag (pvl 1 gB) aj)) (hdb:=n_neighbours__check_place.d))) (ao (aB (bQ qg n_neighbours__sorted.g T.sorted sG (ag (aq G_other_ends (hr.mono (by decide)) n_neighbours__other_ends.g D_other_ends.m D_other_ends.F.kp D_other_ends.b .nil bh (ag (fG  (pvl 0 fT) rfl) (ag (pvl 1 gB) aj)) (hdb:=n_neighbours__other_ends.d)) aj) (hn:=n_neighbours__sorted.n) (hdb:=n_neighbours__sorted.d))))),?_⟩
   rw [show L2.start ["web","a"] [V.ref p,V.int a]=[some (V.ref p),some (V.int a)] from rfl]
   walk_at "rd"
   refine ⟨p,t,m,ps,rs,a,rfl,W,fun a0 a1=>?_,e⟩
   have hlen:(rs.length:Int)=m - 1:=W.go.len
   have m24:=W.go.m24
   refine ⟨T.Web,dx,_,ob,T.cl_Web,T.n_roads,_,ka m t,t,ps,rs,a,rfl,SqT.of W.tu,W.ro,by omega,fun l1 H1 n1 s1 e1=>?_⟩
   refine ⟨l1,rfl,bR rs a,SqL.of e1,by have:=ow rs a; omega,fun l2 zs n2 pz sz=>?_⟩
   rw [zc W.go a0 a1 pz sz]
   exact k l2 _ a0 a1 (s1.free n2) (s1.trans (Same.new _ n2)) ah
/-! #### kids -/
def mh (T:Txt K mg):Sp:=fun vs H Q _=>∃ (p t:Addr) (m:Int) (ps:List Addr) (rs:List Road) (a:Int) (fv:V),vs=[.ref p,.int a,fv]∧WebAt T.Web H p m t ps rs∧0≤a∧a < m∧(fv=.non∨∃ i,fv=.int i) ∧
 ∀ l H',H l=none→Same H H'→H' l=some (.lst ((bx m rs fv a).map V.int))→Q (.ref l) H'
abbrev cY:Stmt:=top 36
theorem yL:FnScope ["web","place","front"] ["web","place","front"] (aa cY):=FnScope.of (by kernel_rfl)
theorem qh:NmL (aa cY) "web":=.of (by kernel_rfl)
theorem nM:NmL (aa cY) "place":=.of (by kernel_rfl)
theorem zv:NmC (aa cY) "front":=.of (by kernel_rfl)
theorem n_kids__neighbours:NmG (aa cY) "neighbours":=.of (by kernel_rfl)

theorem zo (T:Txt K mg) (hq:aL (CXe P w)) {f:Addr} {fd:FuncData} (D:Df K mg "kids" cY ["web","place","front"] f fd) {f_neighbours:Addr} {fd_neighbours:FuncData} (D_neighbours:Df K mg "neighbours" bA ["web","a"] f_neighbours fd_neighbours) (G_neighbours:FnOk P w K mg base (CXe P w) 3 f_neighbours fd_neighbours ["web","a"] (fQ T)):FnOk P w K mg base (CXe P w) 4 f fd ["web","place","front"] (mh T):=by
 refine D.F.okC yL (fun vs H Q E h=>?_) (fun cdv A outer s H vs Q E hr h=>?_)
 · obtain ⟨p,t,m,ps,rs,a,fv,rfl,_⟩:=h
   rfl
 · obtain ⟨p,t,m,ps,rs,a,fv,rfl,W,a0,a1,hf,k⟩:=h
   have m24:=W.go.m24
   refine ⟨_,(ao (aB (f8 rfl (jI (Nc:=["near","front"]) 1 [2] (by decide +kernel) rfl (by decide +kernel) rfl (by show ∀ (y:Str × NameKind),y∈_→y.2=NameKind.free→(aa cY).names.lookup y.1=some NameKind.cell; decide +kernel) rfl (fun _ h=>eR h) (fun i hi=>match i,hi with | 0,_=>⟨"front",2,rfl,rfl,rfl,by decide +kernel⟩ | i + 1,hi=>absurd hi (by show ¬ i + 1 < 1; omega))) (eU (aq G_neighbours (hr.mono (by decide)) n_kids__neighbours.g D_neighbours.m D_neighbours.F.kp D_neighbours.b .nil (aS hq) (ag (pvl 0 qh) (ag (pvl 1 nM) aj)) (hdb:=n_kids__neighbours.d))) (fun _ _ _ _=>(aO (i:=0) (show (["near","front"]:List Str).Nodup from by decide +kernel) rfl (Or.inl rfl))) (fun _ _ _ _=>(qu (aK n9 (pv 0) (pv 1) (aJ _)))) (fun _ _ _ _=>(pv 0))))),?_⟩
   rw [show L2.start ["web","place","front"] [V.ref p,V.int a,fv]=[some (V.ref p),some (V.int a),some fv] from rfl]
   walk_at "rd"
   have nl:(dh m rs a).length≤24:=by
     have:=List.length_filter_le (fun q=>decide (q∈bR rs a)) (below m.toNat)
     rw [bL] at this
     unfold dh
     omega
   refine ⟨p,t,m,ps,rs,a,rfl,W,fun l1 H1 _ _ n1 s1 e1=>⟨l1,rfl,⟨_,SqL.of e1⟩,fun l2 n2=>?_⟩,fun z=>absurd ⟨a0,a1⟩ z⟩
   have n20:H l2=none:=s1.free n2
   refine kM (c:=true) (K:=K) (a:=l1) (xs:=(dh m rs a).map V.int) (fun j ys σ H2=>Same H1 H2∧H2 l2=some (.lst ys)∧ys=(((dh m rs a).take j).filter fun v=>decide (V.int v≠fv)).map V.int∧∃ v,σ=[v,some fv]) ⟨Same.new _ n2,ah,rfl,_,rfl⟩ (fun j ys σ H2 _ z=>SqL.of (z.1 _ _ e1)) ?_ ?_
   · rintro j xj ys σ H2 N hN hj ⟨s2,h2,rfl,v,rfl⟩
     rw [List.getElem?_map] at hj
     obtain ⟨b,hb,rfl⟩:=Option.map_eq_some_iff.mp hj
     have et:(dh m rs a).take (j + 1)=(dh m rs a).take j ++ [b]:=by rw [List.take_succ,hb]; rfl
     have ll:(((dh m rs a).take j).filter fun v=>decide (V.int v≠fv)).length≤24:=by
       have h1:=List.length_filter_le (fun v=>decide (V.int v≠fv)) ((dh m rs a).take j)
       rw [List.length_take] at h1
       omega
     walk_at "rd"
     have sc:iw (V.int b) fv=true:=by
       rcases hf with rfl | ⟨i,rfl⟩ <;> rfl
     refine ⟨sc,?_⟩
     by_cases c:V.int b=fv
     · rw [if_neg (fun z=>z c)]
       refine hN _ _ _ ⟨s2,h2,?_,_,rfl⟩
       rw [et,List.filter_append]
       simp [c]
     · rw [if_pos c]
       refine ⟨h2,cr (by rw [List.length_map]; omega),hN _ _ _ ⟨s2.put n2 _,ah,?_,_,rfl⟩⟩
       rw [et,List.filter_append]
       simp [c]
   · rintro ys σ H2 ⟨s2,h2,rfl,v,rfl⟩
     rw [List.length_map,List.take_length] at h2
     exact k l2 H2 n20 (s1.trans s2) h2
/-! #### ahead -/
def ki (T:Txt K mg):Sp:=fun vs H Q E=>∃ (p t:Addr) (m:Int) (ps:List Addr) (rs:List Road) (r:Int),vs=[.ref p,.int r]∧WebAt T.Web H p m t ps rs ∧
 (0≤r→r < m→∃ par dep,Rooted m rs r par dep∧∀ l H',H l=none→Same H H'→H' l=some (.lst (gK m r par))→Q (.ref l) H')∧(¬ (0≤r∧r < m)→E (.ref T.NoPlace) none H)
abbrev b4:Stmt:=top 34
theorem sc_ahead:FnScope ["web","r","nearer","waiting","place","front","kid"] ["web","r"] (aa b4):=FnScope.of (by kernel_rfl)
theorem gg:NmL (aa b4) "web":=.of (by kernel_rfl)
theorem lU:NmL (aa b4) "r":=.of (by kernel_rfl)
theorem n_ahead__nearer:NmL (aa b4) "nearer":=.of (by kernel_rfl)
theorem n_ahead__waiting:NmL (aa b4) "waiting":=.of (by kernel_rfl)
theorem n_ahead__place:NmL (aa b4) "place":=.of (by kernel_rfl)
theorem n_ahead__front:NmL (aa b4) "front":=.of (by kernel_rfl)
theorem n_ahead__kid:NmL (aa b4) "kid":=.of (by kernel_rfl)
theorem n_ahead__check_place:NmG (aa b4) "check_place":=.of (by kernel_rfl)
theorem n_ahead__kids:NmG (aa b4) "kids":=.of (by kernel_rfl)

theorem vT (T:Txt K mg) (hq:aL (CXe P w)) {f:Addr} {fd:FuncData} (D:Df K mg "ahead" b4 ["web","r"] f fd) {f_check_place:Addr} {fd_check_place:FuncData} (D_check_place:Df K mg "check_place" bi ["web","number"] f_check_place fd_check_place) (G_check_place:FnOk P w K mg base (CXe P w) 2 f_check_place fd_check_place ["web","number"] (dJ T)) {f_kids:Addr} {fd_kids:FuncData} (D_kids:Df K mg "kids" cY ["web","place","front"] f_kids fd_kids) (G_kids:FnOk P w K mg base (CXe P w) 4 f_kids fd_kids ["web","place","front"] (mh T)):FnOk P w K mg base (CXe P w) 5 f fd ["web","r"] (ki T):=by
 refine D.F.okX sc_ahead (fun vs H Q E h=>?_) (fun cdv A outer s H vs Q E hr h=>?_)
 · obtain ⟨p,t,m,ps,rs,r,rfl,_⟩:=h
   rfl
 · obtain ⟨p,t,m,ps,rs,r,rfl,W,k,e⟩:=h
   obtain ⟨dx,ob⟩:=W.ob
   have g:=W.go
   have m24:=g.m24
   refine ⟨_,(am (bG (aq G_check_place (hr.mono (by decide)) n_ahead__check_place.g D_check_place.m D_check_place.F.kp D_check_place.b .nil bh (ag (pvl 0 gg) (ag (pvl 1 lU) aj)) (hdb:=n_ahead__check_place.d))) (am (ay (i:=2) sc_ahead.nd rfl (Or.inl n_ahead__nearer.l) (au ph (bB (ag Aj aj)) (fG  (pvl 0 gg) rfl))) (am (ay (i:=3) sc_ahead.nd rfl (Or.inl n_ahead__waiting.l) (bB (ag (pvl 1 lU) aj))) (am (kX PassesOwn.leaving (kU (pvl 3 n_ahead__waiting) (fun _=>rfl)) (am (ay (i:=4) sc_ahead.nd rfl (Or.inl n_ahead__place.l) (oN PySem.F.plainAttrs_list PySem.F.slot_list_pop PySem.F.type_list_pop pE (pvl 3 n_ahead__waiting))) (am (ay (i:=5) sc_ahead.nd rfl (Or.inl n_ahead__front.l) (aP bO (pvl 2 n_ahead__nearer) (pvl 4 n_ahead__place) (fun _ _=>rfl))) (ao (cD PassesOwn.leaving rfl (eU (aq G_kids (hr.mono (by decide)) n_ahead__kids.g D_kids.m D_kids.F.kp D_kids.b .nil bh (ag (pvl 0 gg) (ag (pvl 4 n_ahead__place) (ag (pvl 5 n_ahead__front) aj))) (hdb:=n_ahead__kids.d))) (aO (i:=6) sc_ahead.nd rfl (Or.inl n_ahead__kid.l)) (am (gZ (pvl 4 n_ahead__place) (jd (pvl 2 n_ahead__nearer) (pvl 6 n_ahead__kid) dD)) (ao (bG (dP PySem.F.plainAttrs_list PySem.F.slot_list_append PySem.F.type_list_append cq (pvl 3 n_ahead__waiting) (ag (pvl 6 n_ahead__kid) aj)))))))))) (ao (aB (pvl 2 n_ahead__nearer))))))),?_⟩
   rw [show L2.start ["web","r","nearer","waiting","place","front","kid"] [V.ref p,V.int r]=[some (V.ref p),some (V.int r),none,none,none,none,none] from rfl]
   walk_at "rd"
   refine ⟨p,t,m,ps,rs,r,rfl,W,fun r0 r1=>?_,e⟩
   obtain ⟨par,dep,R,k⟩:=k r0 r1
   refine ⟨by decide,fun l1 n1=>?_⟩
   have s1:=Same.new (.lst [V.non]) n1
   refine ⟨T.Web,dx,_,s1 _ _ ob,T.cl_Web,T.n_many,_,rfl,?_⟩
   refine ⟨l1,m,[V.non],rfl,rfl,ah,by omega,by omega,aD (by simp; omega),fun l2 n2=>?_⟩
   have n20:H l2=none:=s1.free n2
   rw [ya,← An (par:=par)]
   have s2:=s1.trans (Same.new (.lst (nl m par [])) n2)
   refine ⟨aD (by simp),fun l3 n3=>?_⟩
   have n30:H l3=none:=s2.free n3
   have n32:l3≠l2:=fun z=>by rw [z,ah] at n3; cases n3
   have s3:=s2.trans (Same.new (.lst [V.int r]) n3)
   have e2:upd (upd (upd H l1 (.lst [V.non])) l2 (.lst (nl m par []))) l3 (.lst [V.int r]) l2=some (.lst (nl m par [])):=by rw [ap n32.symm,ah]
   have e3:upd (upd (upd H l1 (.lst [V.non])) l2 (.lst (nl m par []))) l3 (.lst [V.int r]) l3=some (.lst [V.int r]):=ah
   generalize upd (upd (upd H l1 (.lst [V.non])) l2 (.lst (nl m par []))) l3 (.lst [V.int r])=H3 at s3 e2 e3 ⊢
   refine qH (fun n σ H4=>∃ (ks ws:List Int) (v4 v5 v6:Option V),n=2 * (m.toNat - ks.length) + ws.length∧σ=[some (.ref p),some (.int r),some (.ref l2),some (.ref l3),v4,v5,v6]∧Same H H4∧H4 l2=some (.lst (nl m par ks))∧H4 l3=some (.lst (ws.map V.int))∧AInv m rs r par ks ws) (2 * m.toNat + 1) ⟨[],[r],_,_,_,rfl,rfl,s3,e2,e3,AInv.start⟩ ?_
   rintro n σ H4 NW BB hBB hN hN2 ⟨ks,ws,v4,v5,v6,rfl,rfl,s4,h2,h3,J⟩
   refine hBB _ _ _ ?_
   have kl:=cf (by omega) J.nd J.rng
   walk_at "rd"
   refine ⟨_,.inl ⟨_,SqL.of h3,rfl⟩,?_⟩
   rcases List.eq_nil_or_concat ws with rfl | ⟨ws',q,rfl⟩
   · rw [if_neg (by simp)]
     rw [J.done R] at h2
     exact k l2 H4 n20 s4 h2
   · rw [List.concat_eq_append] at J h3 hN hN2 ⊢
     rw [if_pos (by simp)]
     have hq:q∈ws' ++ [q]:=List.mem_append_right _ (List.mem_singleton.mpr rfl)
     have pr:=J.at_ r0 r1 hq
     have J2:=J.step g R r0 r1 (p:=q) (ws':=ws') (List.perm_append_singleton q ws')
     refine ⟨NW,fun σ' H' z=>?_,?_⟩
     · obtain ⟨m',lt,ks',ws'',a4,a5,a6,e1,e2,e3⟩:=hN2 _ _ z
       exact ⟨m',lt,ks',ws'',e1,a4,a5,a6,e2,e3⟩
     rw [List.map_append,List.map_cons,List.map_nil] at h3
     refine ⟨tyL h3,xA h3 ?_⟩
     have s5:Same H (upd H4 l3 (.lst (ws'.map V.int))):=s4.put n30 _
     have h25:upd H4 l3 (.lst (ws'.map V.int)) l2=some (.lst (nl m par ks)):=by rw [ap n32.symm]; exact h2
     have h35:upd H4 l3 (.lst (ws'.map V.int)) l3=some (.lst (ws'.map V.int)):=ah
     generalize upd H4 l3 (.lst (ws'.map V.int))=H5 at s5 h25 h35 ⊢
     refine ixL h25 (jG pr.1 (sA pr.1 pr.2)) ?_
     rw [J.front hq]
     have hfv:Pb.front r par q=.non∨∃ i,Pb.front r par q=.int i:=by
       unfold Pb.front
       by_cases c:q=r
       · rw [if_pos c]; exact .inl rfl
       · rw [if_neg c]; exact .inr ⟨_,rfl⟩
     have mk:∀ v,v∈bx m rs (Pb.front r par q) q→(0≤v∧v < m)∧v≠r∧par v=q:=fun v=>(dA g R pr.1 pr.2).mp
     refine ⟨p,t,m,ps,rs,q,_,rfl,W.same s5,pr.1,pr.2,hfv,fun l6 H6 n6 s6 e6=>⟨l6,rfl,⟨_,SqL.of e6⟩,?_⟩⟩
     generalize bx m rs (Pb.front r par q) q=kk at mk e6 J2 ⊢
     have n6':H l6=none:=s5.free n6
     have n62:l6≠l2:=fun z=>by rw [z,h25] at n6; cases n6
     have n63:l6≠l3:=fun z=>by rw [z,h35] at n6; cases n6
     have kl2:=cf (by omega) J2.nd J2.rng
     rw [List.length_append] at kl2
     have wl2:=cf (by omega) J2.wnd fun w hw=>J2.at_ r0 r1 hw
     rw [List.length_append] at wl2
     refine jm (K:=K) (xs:=kk.map V.int) (fun i σ H7=>∃ v6,σ=[some (.ref p),some (.int r),some (.ref l2),some (.ref l3),some (.int q),some (Pb.front r par q),v6]∧Same H H7∧H7 l6=some (.lst (kk.map V.int))∧H7 l2=some (.lst (nl m par (ks ++ kk.take i)))∧H7 l3=some (.lst ((ws' ++ kk.take i).map V.int))) ⟨_,rfl,s5.trans s6,e6,by rw [List.take_zero,List.append_nil]; exact s6 _ _ h25,by rw [List.take_zero,List.append_nil]; exact s6 _ _ h35⟩ (fun i σ H7 _ z=>by obtain ⟨_,_,_,z,_⟩:=z; exact SqL.of z) ?_ ?_
     · rintro i x σ H7 NI BB hBB hI hi ⟨v6,rfl,s7,e7,h27,h37⟩
       refine hBB _ _ ?_
       rw [List.getElem?_map] at hi
       obtain ⟨v,hv,rfl⟩:=Option.map_eq_some_iff.mp hi
       obtain ⟨vr,_,vp⟩:=mk v (List.mem_of_getElem? hv)
       have et:kk.take (i + 1)=kk.take i ++ [v]:=by rw [List.take_succ,hv]; rfl
       walk_at "rd"
       refine ⟨l2,_,v,v.toNat,rfl,rfl,h27,by unfold ixN; rw [if_pos vr.1,if_pos (by rw [gn]; omega)],?_⟩
       rw [← vp,AS vr.1 vr.2,vp,List.append_assoc,← et]
       have h38:upd H7 l2 (.lst (nl m par (ks ++ kk.take (i + 1)))) l3=some (.lst ((ws' ++ kk.take i).map V.int)):=by rw [ap n32]; exact h37
       have wlen:(ws' ++ kk.take i).length≤100:=by
         rw [List.length_append,List.length_take]
         omega
       refine ⟨tyL h38,gc h38 (cr (by rw [List.length_map]; omega)) (hI _ _ ⟨_,rfl,(s7.put n20 _).put n30 _,?_,?_,?_⟩)⟩
       · rw [ap n63,ap n62]; exact e7
       · rw [ap n32.symm,ah]
       · rw [ah,et,← List.append_assoc,List.map_append (l₁:=ws' ++ kk.take i)]; rfl
     · rintro BB σ H7 hBB ⟨v6,rfl,s7,e7,h27,h37⟩
       refine hBB _ _ ?_
       rw [List.length_map,List.take_length] at h27 h37
       refine hN _ _ _ ?_ ⟨_,_,_,_,_,rfl,rfl,s7,h27,h37,J2⟩
       rw [List.length_append,List.length_append,List.length_append]
       simp only [List.length_cons,List.length_nil]
       omega
/-! #### down -/
def qj (T:Txt K mg):Sp:=fun vs H Q E=>∃ (p t:Addr) (m:Int) (ps:List Addr) (rs:List Road) (r:Int),vs=[.ref p,.int r]∧WebAt T.Web H p m t ps rs ∧
 (0≤r→r < m→∃ par dep,Rooted m rs r par dep∧∀ l H',H l=none→Same H H'→H' l=some (.lst ((dj m rs r par dep r).map V.int))→(dj m rs r par dep r).Nodup→(∀ v,v∈dj m rs r par dep r↔0≤v∧v < m)→Q (.ref l) H')∧(¬ (0≤r∧r < m)→E (.ref T.NoPlace) none H)
abbrev cw:Stmt:=top 35
theorem sc_down:FnScope ["web","r","nearer","places","waiting","place","kid"] ["web","r"] (aa cw):=FnScope.of (by kernel_rfl)
theorem j3:NmL (aa cw) "web":=.of (by kernel_rfl)
theorem nB:NmL (aa cw) "r":=.of (by kernel_rfl)
theorem n_down__nearer:NmL (aa cw) "nearer":=.of (by kernel_rfl)
theorem n_down__places:NmL (aa cw) "places":=.of (by kernel_rfl)
theorem n_down__waiting:NmL (aa cw) "waiting":=.of (by kernel_rfl)
theorem n_down__place:NmL (aa cw) "place":=.of (by kernel_rfl)
theorem n_down__kid:NmL (aa cw) "kid":=.of (by kernel_rfl)
theorem n_down__ahead:NmG (aa cw) "ahead":=.of (by kernel_rfl)
theorem n_down__reversed:NmG (aa cw) "reversed":=.of (by kernel_rfl)
theorem n_down__kids:NmG (aa cw) "kids":=.of (by kernel_rfl)

theorem yH (T:Txt K mg) (hq:aL (CXe P w)) {f:Addr} {fd:FuncData} (D:Df K mg "down" cw ["web","r"] f fd) {f_ahead:Addr} {fd_ahead:FuncData} (D_ahead:Df K mg "ahead" b4 ["web","r"] f_ahead fd_ahead) (G_ahead:FnOk P w K mg base (CXe P w) 5 f_ahead fd_ahead ["web","r"] (ki T)) {f_kids:Addr} {fd_kids:FuncData} (D_kids:Df K mg "kids" cY ["web","place","front"] f_kids fd_kids) (G_kids:FnOk P w K mg base (CXe P w) 4 f_kids fd_kids ["web","place","front"] (mh T)):FnOk P w K mg base (CXe P w) 6 f fd ["web","r"] (qj T):=by
 refine D.F.okX sc_down (fun vs H Q E h=>?_) (fun cdv A outer s H vs Q E hr h=>?_)
 · obtain ⟨p,t,m,ps,rs,r,rfl,_⟩:=h
   rfl
 · obtain ⟨p,t,m,ps,rs,r,rfl,W,k,e⟩:=h
   have g:=W.go
   have m24:=g.m24
   refine ⟨_,(am (ay (i:=2) sc_down.nd rfl (Or.inl n_down__nearer.l) (aq G_ahead (hr.mono (by decide)) n_down__ahead.g D_ahead.m D_ahead.F.kp D_ahead.b .nil bh (ag (pvl 0 j3) (ag (pvl 1 nB) aj)) (hdb:=n_down__ahead.d))) (am (ay (i:=3) sc_down.nd rfl (Or.inl n_down__places.l) (bB aj)) (am (ay (i:=4) sc_down.nd rfl (Or.inl n_down__waiting.l) (bB (ag (pvl 1 nB) aj))) (am (kX PassesOwn.leaving (kU (pvl 4 n_down__waiting) (fun _=>rfl)) (am (ay (i:=5) sc_down.nd rfl (Or.inl n_down__place.l) (oN PySem.F.plainAttrs_list PySem.F.slot_list_pop PySem.F.type_list_pop pE (pvl 4 n_down__waiting))) (am (bG (dP PySem.F.plainAttrs_list PySem.F.slot_list_append PySem.F.type_list_append cq (pvl 3 n_down__places) (ag (pvl 5 n_down__place) aj))) (ao (cD PassesOwn.leaving rfl (oZ n_down__reversed.g T.reversed (aq G_kids (hr.mono (by decide)) n_down__kids.g D_kids.m D_kids.F.kp D_kids.b .nil bh (ag (pvl 0 j3) (ag (pvl 5 n_down__place) (ag (aP bO (pvl 2 n_down__nearer) (pvl 5 n_down__place) (fun _ _=>rfl)) aj))) (hdb:=n_down__kids.d))) (aO (i:=6) sc_down.nd rfl (Or.inl n_down__kid.l)) (ao (bG (dP PySem.F.plainAttrs_list PySem.F.slot_list_append PySem.F.type_list_append cq (pvl 4 n_down__waiting) (ag (pvl 6 n_down__kid) aj))))))))) (ao (aB (pvl 3 n_down__places))))))),?_⟩
   rw [show L2.start ["web","r","nearer","places","waiting","place","kid"] [V.ref p,V.int r]=[some (V.ref p),some (V.int r),none,none,none,none,none] from rfl]
   walk_at "rd"
   refine ⟨p,t,m,ps,rs,r,rfl,W,fun r0 r1=>?_,e⟩
   obtain ⟨par,dep,R,k⟩:=k r0 r1
   refine ⟨par,dep,R,fun l1 H1 n1 s1 e1=>⟨by decide,fun l3 n3=>⟨aD (by simp),fun l4 n4=>?_⟩⟩⟩
   have n30:H l3=none:=s1.free n3
   have s3:=s1.trans (Same.new (.lst []) n3)
   have n40:H l4=none:=s3.free n4
   have n13:l1≠l3:=fun z=>by rw [← z,e1] at n3; cases n3
   have n34:l3≠l4:=fun z=>by rw [← z,ah] at n4; cases n4
   have e13:=Same.new (.lst []) n3 _ _ e1
   have n14:l1≠l4:=fun z=>by rw [← z,e13] at n4; cases n4
   have s4:=s3.trans (Same.new (.lst [V.int r]) n4)
   have e14:=Same.new (.lst [V.int r]) n4 _ _ e13
   have e34:upd (upd H1 l3 (.lst [])) l4 (.lst [V.int r]) l3=some (.lst []):=by rw [ap n34,ah]
   have e44:upd (upd H1 l3 (.lst [])) l4 (.lst [V.int r]) l4=some (.lst [V.int r]):=ah
   generalize upd (upd H1 l3 (.lst [])) l4 (.lst [V.int r])=H4 at s4 e14 e34 e44 ⊢
   refine qH (fun n σ H5=>∃ (ks ws pl:List Int) (v5 v6:Option V),n=2 * (m.toNat - ks.length) + ws.length∧σ=[some (.ref p),some (.int r),some (.ref l1),some (.ref l3),some (.ref l4),v5,v6]∧Same H H5∧H5 l1=some (.lst (gK m r par))∧H5 l3=some (.lst (pl.map V.int))∧H5 l4=some (.lst (ws.map V.int))∧AInv m rs r par ks ws∧(pl ++ ws).Perm (r :: ks)∧pl ++ ws.reverse.flatMap (dj m rs r par dep)=dj m rs r par dep r) (2 * m.toNat + 1) ⟨[],[r],[],_,_,rfl,rfl,s4,e14,e34,e44,AInv.start,List.Perm.refl _,by simp⟩ ?_
   rintro n σ H5 NW BB hBB hN hN2 ⟨ks,ws,pl,v5,v6,rfl,rfl,s5,h1,h3,h4,J,pe,ep⟩
   refine hBB _ _ _ ?_
   have rk:∀ w∈r :: ks,0≤w∧w < m:=fun w hw=>by
     rcases List.mem_cons.mp hw with rfl | z
     · exact ⟨r0,r1⟩
     · exact J.rng w z
   have nk:(r :: ks).Nodup:=List.nodup_cons.mpr ⟨J.nr,J.nd⟩
   have kl:=cf (m:=m) (by omega) nk rk
   have kl1:=cf (m:=m) (by omega) J.nd J.rng
   have pl1:=pe.length_eq
   rw [List.length_append] at pl1
   rw [List.length_cons] at kl pl1
   walk_at "rd"
   refine ⟨_,.inl ⟨_,SqL.of h4,rfl⟩,?_⟩
   rcases List.eq_nil_or_concat ws with rfl | ⟨ws',q,rfl⟩
   · rw [if_neg (by simp)]
     rw [List.reverse_nil,List.flatMap_nil,List.append_nil] at ep
     rw [List.append_nil] at pe
     subst ep
     refine k l3 H5 n30 s5 h3 (pe.nodup_iff.mpr nk) fun v=>⟨fun z=>rk v (pe.mem_iff.mp z),fun z=>pe.mem_iff.mpr ?_⟩
     by_cases c:v=r
     · rw [c]; exact List.mem_cons_self
     · exact List.mem_cons_of_mem _ (J.all R v z.1 z.2 c)
   · rw [List.concat_eq_append] at J h4 hN hN2 pe ep pl1 ⊢
     rw [if_pos (by simp)]
     have hq:q∈ws' ++ [q]:=List.mem_append_right _ (List.mem_singleton.mpr rfl)
     have pr:=J.at_ r0 r1 hq
     have J2:=J.step g R r0 r1 (p:=q) (ws':=ws') (List.perm_append_singleton q ws')
     refine ⟨NW,fun σ' H' z=>?_,?_⟩
     · obtain ⟨m',lt,ks',ws'',pl',a5,a6,z1,z2⟩:=hN2 _ _ z
       exact ⟨m',lt,ks',ws'',z1,pl',a5,a6,z2⟩
     rw [List.map_append,List.map_cons,List.map_nil] at h4
     refine ⟨tyL h4,xA h4 ?_⟩
     have s6:Same H (upd H5 l4 (.lst (ws'.map V.int))):=s5.put n40 _
     have h36:upd H5 l4 (.lst (ws'.map V.int)) l3=some (.lst (pl.map V.int)):=by rw [ap n34]; exact h3
     have h16:upd H5 l4 (.lst (ws'.map V.int)) l1=some (.lst (gK m r par)):=by rw [ap n14]; exact h1
     have h46:upd H5 l4 (.lst (ws'.map V.int)) l4=some (.lst (ws'.map V.int)):=ah
     generalize upd H5 l4 (.lst (ws'.map V.int))=H6 at s6 h36 h16 h46 ⊢
     refine ⟨tyL h36,gc h36 (cr (by rw [List.length_map]; omega)) ?_⟩
     have s7:Same H (upd H6 l3 (.lst (pl.map V.int ++ [V.int q]))):=s6.put n30 _
     have h37:upd H6 l3 (.lst (pl.map V.int ++ [V.int q])) l3=some (.lst ((pl ++ [q]).map V.int)):=by rw [ah,List.map_append]; rfl
     have h17:upd H6 l3 (.lst (pl.map V.int ++ [V.int q])) l1=some (.lst (gK m r par)):=by rw [ap n13]; exact h16
     have h47:upd H6 l3 (.lst (pl.map V.int ++ [V.int q])) l4=some (.lst (ws'.map V.int)):=by rw [ap n34.symm]; exact h46
     generalize upd H6 l3 (.lst (pl.map V.int ++ [V.int q]))=H7 at s7 h37 h17 h47 ⊢
     refine ixL h17 (jG pr.1 (oA pr.1 pr.2)) ?_
     have hfv:Pb.front r par q=.non∨∃ i,Pb.front r par q=.int i:=by
       unfold Pb.front
       by_cases c:q=r
       · rw [if_pos c]; exact .inl rfl
       · rw [if_neg c]; exact .inr ⟨_,rfl⟩
     have pq:=mY g R pr.1 pr.2
     refine ⟨p,t,m,ps,rs,q,_,rfl,W.same s7,pr.1,pr.2,hfv,fun l8 H8 n8 s8 e8=>⟨l8,rfl,_,SqL.of e8,?_⟩⟩
     generalize bx m rs (Pb.front r par q) q=kk at e8 J2 pq ⊢
     have n81:l1≠l8:=fun z=>by rw [← z,h17] at n8; cases n8
     have n83:l3≠l8:=fun z=>by rw [← z,h37] at n8; cases n8
     have n84:l4≠l8:=fun z=>by rw [← z,h47] at n8; cases n8
     have kl2:=cf (m:=m) (by omega) J2.nd J2.rng
     rw [List.length_append] at kl2
     have wl2:=cf (m:=m) (by omega) J2.wnd fun w hw=>J2.at_ r0 r1 hw
     rw [List.length_append] at wl2
     refine oW (K:=K) (xs:=kk.map V.int) (fun i σ H9=>∃ v6,σ=[some (.ref p),some (.int r),some (.ref l1),some (.ref l3),some (.ref l4),some (.int q),v6]∧Same H H9∧H9 l8=some (.lst (kk.map V.int))∧H9 l1=some (.lst (gK m r par))∧H9 l3=some (.lst ((pl ++ [q]).map V.int))∧H9 l4=some (.lst ((ws' ++ kk.reverse.take i).map V.int))) ⟨_,rfl,s7.trans s8,e8,s8 _ _ h17,s8 _ _ h37,by rw [List.take_zero,List.append_nil]; exact s8 _ _ h47⟩ (fun i σ H9 _ z=>by obtain ⟨_,_,_,z,_⟩:=z; exact SqL.of z) ?_ ?_
     · rintro i x σ H9 NI hI hi ⟨v6,rfl,s9,e9,h19,h39,h49⟩
       rw [← List.map_reverse,List.getElem?_map] at hi
       obtain ⟨v,hv,rfl⟩:=Option.map_eq_some_iff.mp hi
       have et:kk.reverse.take (i + 1)=kk.reverse.take i ++ [v]:=by rw [List.take_succ,hv]; rfl
       have wlen:(ws' ++ kk.reverse.take i).length≤100:=by
         rw [List.length_append,List.length_take,List.length_reverse]
         omega
       walk_at "rd"
       refine ⟨tyL h49,gc h49 (cr (by rw [List.length_map]; omega)) (hI _ _ ⟨_,rfl,s9.put n40 _,?_,?_,?_,?_⟩)⟩
       · rw [ap n84.symm]; exact e9
       · rw [ap n14]; exact h19
       · rw [ap n34]; exact h39
       · rw [ah,et,← List.append_assoc,List.map_append (l₁:=ws' ++ kk.reverse.take i)]; rfl
     · rintro σ H9 ⟨v6,rfl,s9,e9,h19,h39,h49⟩
       rw [List.length_map,show kk.length=kk.reverse.length by rw [List.length_reverse],List.take_length] at h49
       refine hN _ _ _ ?_ ⟨ks ++ kk,ws' ++ kk.reverse,pl ++ [q],_,_,rfl,rfl,s9,h19,h39,h49,J2.perm (List.Perm.append_left _ kk.reverse_perm.symm),?_,?_⟩
       · rw [List.length_append,List.length_append,List.length_append,List.length_reverse]
         simp only [List.length_cons,List.length_nil]
         omega
       · have p1:(pl ++ [q] ++ (ws' ++ kk.reverse)).Perm (pl ++ (ws' ++ [q]) ++ kk):=by
           rw [List.append_assoc,List.append_assoc]
           refine List.Perm.append_left _ ?_
           rw [← List.append_assoc]
           exact List.Perm.append (List.perm_append_comm) kk.reverse_perm
         exact p1.trans (List.Perm.append_right _ pe)
       · rw [← ep,List.reverse_append,List.reverse_append,List.reverse_reverse,List.reverse_singleton,List.singleton_append,List.flatMap_cons,pq,List.flatMap_append]
         simp
/-! #### inward -/
/-- the places of a row with the ones ahead of them,from its end -/
def rY (par:Int→Int) (v:Int):List V:=[.int v,.int (par v)]
abbrev PairsAt (H:Hp) (par:Int→Int):List Addr→List Int→Prop:=Paired fun q v=>H q=some (.tup (rY par v))
theorem PairsAt.same {H H':Hp} {par:Int→Int} {qs:List Addr} {vs:List Int} (e:Same H H') (h:PairsAt H par qs vs):PairsAt H' par qs vs:=Paired.imp' (fun q v x=>e q _ x) h
theorem PairsAt.get {H:Hp} {par:Int→Int}:∀ {ps:List Addr} {rs:List Int} {i:Nat} {x:V},PairsAt H par ps rs→(ps.map V.ref)[i]?=some x→∃ p r,x=.ref p∧ps[i]?=some p∧rs[i]?=some r∧H p=some (.tup (rY par r))
 | _,_,i,x,.nil,e=>by simp at e
 | _,_,0,x,.cons (a:=p) (b:=r) h hs,e=>⟨p,r,by simpa using e.symm,by simp,by simp,h⟩
 | a :: l1,_,i + 1,x,.cons h hs,e=>by
   have e':(List.map V.ref l1)[i]?=some x:=by simpa using e
   obtain ⟨p,r,h1,h2,h3,h4⟩:=PairsAt.get hs e'
   exact ⟨p,r,h1,by simpa using h2,by simpa using h3,h4⟩
theorem PairsAt.snoc {H:Hp} {par:Int→Int} {q:Addr} {v:Int} (e:H q=some (.tup (rY par v))):∀ {qs:List Addr} {vs:List Int},PairsAt H par qs vs→PairsAt H par (qs ++ [q]) (vs ++ [v])
 | _,_,.nil=>.cons e .nil
 | _,_,.cons x xs=>.cons x (PairsAt.snoc e xs)
def gC (T:Txt K mg):Sp:=fun vs H Q E=>∃ (p t:Addr) (m:Int) (ps:List Addr) (rs:List Road) (r:Int),vs=[.ref p,.int r]∧WebAt T.Web H p m t ps rs ∧
 (0≤r→r < m→∃ par dep,Rooted m rs r par dep∧∀ l qs tl H',dj m rs r par dep r=r :: tl→H l=none→Same H H'→H' l=some (.lst (qs.map V.ref))→PairsAt H' par qs tl.reverse→Order m r par tl→Q (.ref l) H')∧(¬ (0≤r∧r < m)→E (.ref T.NoPlace) none H)
abbrev bU:Stmt:=top 37
theorem sc_inward:FnScope ["web","r","nearer"] ["web","r"] (aa bU):=FnScope.of (by kernel_rfl)
theorem iE:NmL (aa bU) "web":=.of (by kernel_rfl)
theorem j7:NmC (aa bU) "r":=.of (by kernel_rfl)
theorem n_inward__nearer:NmC (aa bU) "nearer":=.of (by kernel_rfl)
theorem n_inward__ahead:NmG (aa bU) "ahead":=.of (by kernel_rfl)
theorem n_inward__reversed:NmG (aa bU) "reversed":=.of (by kernel_rfl)
theorem n_inward__down:NmG (aa bU) "down":=.of (by kernel_rfl)

theorem sM (T:Txt K mg) (hq:aL (CXe P w)) {f:Addr} {fd:FuncData} (D:Df K mg "inward" bU ["web","r"] f fd) {f_ahead:Addr} {fd_ahead:FuncData} (D_ahead:Df K mg "ahead" b4 ["web","r"] f_ahead fd_ahead) (G_ahead:FnOk P w K mg base (CXe P w) 5 f_ahead fd_ahead ["web","r"] (ki T)) {f_down:Addr} {fd_down:FuncData} (D_down:Df K mg "down" cw ["web","r"] f_down fd_down) (G_down:FnOk P w K mg base (CXe P w) 6 f_down fd_down ["web","r"] (qj T)):FnOk P w K mg base (CXe P w) 7 f fd ["web","r"] (gC T):=by
 refine D.F.okX sc_inward (fun vs H Q E h=>?_) (fun cdv A outer s H vs Q E hr h=>?_)
 · obtain ⟨p,t,m,ps,rs,r,rfl,_⟩:=h
   rfl
 · obtain ⟨p,t,m,ps,rs,r,rfl,W,k,e⟩:=h
   have g:=W.go
   have m24:=g.m24
   refine ⟨_,(am (ay (i:=2) sc_inward.nd rfl (Or.inr n_inward__nearer.l) (aq G_ahead (hr.mono (by decide)) n_inward__ahead.g D_ahead.m D_ahead.F.kp D_ahead.b .nil bh (ag (pvl 0 iE) (ag (pvc 1 j7) aj)) (hdb:=n_inward__ahead.d))) (ao (aB (f8 rfl (jI (Nc:=["place","nearer","r"]) 1 [2,1] (by decide +kernel) rfl (by decide +kernel) rfl (by show ∀ (y:Str × NameKind),y∈_→y.2=NameKind.free→(aa bU).names.lookup y.1=some NameKind.cell; decide +kernel) rfl (fun _ h=>eR h) (fun i hi=>match i,hi with | 0,_=>⟨"nearer",2,rfl,rfl,rfl,by decide +kernel⟩ | 1,_=>⟨"r",1,rfl,rfl,rfl,by decide +kernel⟩ | i + 2,hi=>absurd hi (by show ¬ i + 2 < 2; omega))) (oZ n_inward__reversed.g T.reversed (aq G_down (hr.mono (by decide)) n_inward__down.g D_down.m D_down.F.kp D_down.b .nil bh (ag (pvl 0 iE) (ag (pvc 1 j7) aj)) (hdb:=n_inward__down.d))) (fun _ _ _ _=>(aO (i:=0) (show (["place","nearer","r"]:List Str).Nodup from by decide +kernel) rfl (Or.inl rfl))) (fun _ _ _ _=>(qu (aK n9 (pv 0) (pv 2) (aJ _)))) (fun _ _ _ _=>(cX (ag (pv 0) (ag (aP (u6 K rfl) (pv 1) (pv 0) (fun _ _=>rfl)) aj)))))))),?_⟩
   rw [show L2.start ["web","r","nearer"] [V.ref p,V.int r]=[some (V.ref p),some (V.int r),none] from rfl]
   walk_at "rd"
   refine ex6 p t m ps rs r ?_
   refine an4 rfl W (fun r0 r1=>?_) e
   obtain ⟨par,dep,R,k⟩:=k r0 r1
   refine ⟨par,dep,R,fun l1 H1 n1 s1 e1=>?_⟩
   refine ex6 p t m ps rs r ?_
   refine an4 rfl (W.same s1) (fun _ _=>⟨par,dep,R,fun l2 H2 n2 s2 e2 nd al=>?_⟩) (fun z=>absurd ⟨r0,r1⟩ z)
   obtain ⟨tl,et,O⟩:=qK g R r0 r1 nd al
   have ll:=ic g R r0 r1
   rw [et] at e2 ll
   rw [List.length_cons] at ll
   refine ⟨l2,rfl,_,SqL.of e2,fun pc npc=>?_⟩
   have e12:=s2 _ _ e1
   have s12:=s1.trans s2
   have npc0:=s12.free npc
   refine vw (K:=K) (xs:=(r :: tl).map V.int) (fun i zs σ H3=>Same H2 H3∧H3 pc=some (.lst zs)∧(∃ qs:List Addr,zs=qs.map V.ref∧PairsAt H3 par qs (tl.reverse.take i))∧∃ v,σ=[v,some (V.ref l1),some (V.int r)]) ⟨Same.new _ npc,ah,⟨[],rfl,.nil⟩,_,rfl⟩ (fun i zs σ H3 _ z=>SqL.of (z.1 _ _ e2)) ?_ ?_
   · rintro i x zs σ H3 N hN hx ⟨s3,e3,⟨qs,rfl,pa⟩,v,rfl⟩
     rw [← List.map_reverse,List.reverse_cons,List.getElem?_map] at hx
     obtain ⟨y,gy,rfl⟩:=Option.map_eq_some_iff.mp hx
     have il:=(List.getElem?_eq_some_iff.mp gy).1
     rw [List.length_append,List.length_reverse] at il
     have ql:qs.length=(tl.reverse.take i).length:=Paired.length pa
     rw [List.length_take,List.length_reverse] at ql
     walk_at "rd"
     by_cases c:i < tl.length
     · rw [List.getElem?_append_left (by rw [List.length_reverse]; exact c)] at gy
       have ym:y∈tl:=List.mem_reverse.mp (List.mem_of_getElem? gy)
       have yr:=O.rng y ym
       rw [if_pos (O.ne ym)]
       have gp:atI (gK m r par) y=some (V.int (par y)):=by
         have ef:Pb.front r par y=V.int (par y):=by unfold Pb.front; rw [if_neg (O.ne ym)]
         rw [← ef]; exact jG yr.1 (oA yr.1 yr.2)
       refine ixL (s3 _ _ e12) gp ⟨aD (by simp),fun q nq=>?_⟩
       have s4:=Same.new (.tup [V.int y,V.int (par y)]) nq
       have nqp:q≠pc:=fun z=>by rw [z,e3] at nq; cases nq
       refine ⟨s4 _ _ e3,cr (by rw [List.length_map]; omega),hN _ _ _ ⟨(s3.trans s4).put npc _,ah,⟨qs ++ [q],by rw [List.map_append]; rfl,?_⟩,_,rfl⟩⟩
       rw [List.take_succ,gy]
       refine PairsAt.snoc (by rw [ap nqp,ah]; rfl) ?_
       exact Paired.imp' (fun a b h=>by
         rw [ap (eu h e3 (by intro z; cases z)),ap (aY h nq)]; exact h) pa
     · have ei:i=tl.reverse.length:=by rw [List.length_reverse]; simp at il; omega
       rw [ei,List.getElem?_append_right (Nat.le_refl _),Nat.sub_self] at gy
       cases gy
       rw [if_neg (fun z=>z rfl)]
       refine hN _ _ _ ⟨s3,e3,⟨qs,rfl,?_⟩,_,rfl⟩
       rw [List.take_of_length_le (by omega)] at pa ⊢
       exact pa
   · rintro zs σ H3 ⟨s3,e3,⟨qs,rfl,pa⟩,v,rfl⟩
     rw [List.take_of_length_le (by rw [List.length_map,List.length_reverse,List.length_cons]; omega)] at pa
     exact k pc qs tl H3 et npc0 (s12.trans s3) e3 pa O
/-! #### is_filled -/
def ax (m:Int) (xs:List Int):Bool:=decide ((xs.length:Int)=m) && xs.all fun x=>decide (0≤x)
theorem m9 {m:Int} {xs:List Int} (h:(xs.length:Int)=m) (h0:∀ x∈xs,0≤x):ax m xs=true:=by
 unfold ax
 rw [decide_eq_true h,Bool.true_and,List.all_eq_true]
 exact fun x hx=>decide_eq_true (h0 x hx)
theorem cW {m:Int} {xs:List Int} (h:ax m xs=true):(xs.length:Int)=m:=by
 unfold ax at h
 rw [Bool.and_eq_true] at h
 exact of_decide_eq_true h.1
theorem sL {m:Int} {xs:List Int} (h:ax m xs=true):∀ x∈xs,0≤x:=by
 unfold ax at h
 rw [Bool.and_eq_true,List.all_eq_true] at h
 exact fun x hx=>of_decide_eq_true (h.2 x hx)
def ge (T:Txt K mg):Sp:=fun vs H Q _=>∃ (p a t:Addr) (c:Bool) (m:Int) (ps:List Addr) (rs:List Road) (xs:List Int),vs=[.ref p,.ref a]∧WebAt T.Web H p m t ps rs∧SqX K c H a (xs.map V.int)∧xs.length≤1000∧∀ H',Same H H'→Q (.bl (ax m xs)) H'
abbrev bN:Stmt:=top 24
theorem pA:FnScope ["web","numbers"] ["web","numbers"] (aa bN):=FnScope.of (by kernel_rfl)
theorem kC:NmL (aa bN) "web":=.of (by kernel_rfl)
theorem eF:NmL (aa bN) "numbers":=.of (by kernel_rfl)
theorem n_is_filled__len:NmG (aa bN) "len":=.of (by kernel_rfl)
theorem n_is_filled__all:NmG (aa bN) "all":=.of (by kernel_rfl)

theorem pC (T:Txt K mg) (hq:aL (CXe P w)) {f:Addr} {fd:FuncData} (D:Df K mg "is_filled" bN ["web","numbers"] f fd):FnOk P w K mg base (CXe P w) 1 f fd ["web","numbers"] (ge T):=by
 refine D.F.okC pA (fun vs H Q E h=>?_) (fun cdv A outer s H vs Q E hr h=>?_)
 · obtain ⟨p,a,t,c,m,ps,rs,xs,rfl,_⟩:=h
   rfl
 · obtain ⟨p,a,t,c,m,ps,rs,xs,rfl,W,ha,hz,k⟩:=h
   refine ⟨_,(ao (aB (ju (d9 bZ (bQ cC n_is_filled__len.g T.len eC (ag (pvl 1 eF) aj) (hn:=n_is_filled__len.n) (hdb:=n_is_filled__len.d)) (fG  (pvl 0 kC) rfl) (aJ _)) (lF (bQ (oM rfl) n_is_filled__all.g T.all tX (ag (f8 rfl (kT (Nc:=["number"]) 1 (by decide +kernel) (by decide +kernel) rfl (by decide +kernel) rfl) (tz c (pvl 1 eF)) (fun _ _ _ _=>(aO (i:=0) (show (["number"]:List Str).Nodup from by decide +kernel) rfl (Or.inl rfl))) (fun _ _ _ _=>g6) (fun _ _ _ _=>(d9 jL (pv 0) ak (aJ _)))) aj) (hn:=n_is_filled__all.n) (hdb:=n_is_filled__all.d)))))),?_⟩
   rw [show L2.start ["web","numbers"] [V.ref p,V.ref a]=[some (V.ref p),some (V.ref a)] from rfl]
   walk_at "rd"
   obtain ⟨dx,ob⟩:=W.ob
   have ha':SqL K H a (xs.map V.int)∨SqT K H a (xs.map V.int):=by
     cases c
     · exact .inr ha
     · exact .inl ha
   refine ⟨_,ha',T.Web,dx,_,ob,T.cl_Web,T.n_many,_,eJ m t,rfl,?_⟩
   rw [List.length_map]
   by_cases hm:(xs.length:Int)=m
   · rw [if_pos (by rw [hm])]
     refine ⟨⟨_,ha⟩,fun l nl=>?_⟩
     refine kM (K:=K) (c:=c) (xs:=xs.map V.int) (fun i bs σ H2=>Same H H2∧H2 l=some (.lst bs)∧bs=((xs.take i).map fun x=>decide (0≤x)).map V.bl∧∃ v,σ=[v]) ⟨Same.new _ nl,ah,rfl,_,rfl⟩ (fun i bs σ H2 _ z=>Same.sqX z.1 ha) ?_ ?_
     · rintro i x bs σ H2 N hN hx ⟨s2,e2,rfl,v,rfl⟩
       rw [List.getElem?_map] at hx
       obtain ⟨y,gy,rfl⟩:=Option.map_eq_some_iff.mp hx
       walk_at "rd"
       refine ⟨e2,cr (by rw [List.length_map,List.length_map,List.length_take]; omega),hN _ _ _ ⟨s2.put nl _,ah,?_,_,rfl⟩⟩
       rw [List.take_succ,gy,List.map_append,List.map_append]
       rfl
     · rintro bs σ H2 ⟨s2,e2,rfl,v,rfl⟩
       refine ⟨l,rfl,_,SqL.of e2,?_⟩
       have e:(((xs.take (xs.map V.int).length).map fun x=>decide (0≤x)).all id)=ax m xs:=by
         rw [List.length_map,List.take_length,List.all_map]
         unfold ax
         rw [decide_eq_true hm,Bool.true_and]
         rfl
       rw [e]
       exact k _ s2
   · rw [if_neg (fun z=>hm (by injection z))]
     have e:ax m xs=false:=by
       unfold ax
       rw [decide_eq_false hm,Bool.false_and]
     rw [e] at k
     exact k H (Same.refl _)
/-! #### laying_of -/
def gf (T:Txt K mg):Sp:=fun vs H Q E=>∃ (p a t:Addr) (c:Bool) (m:Int) (ps:List Addr) (rs:List Road) (xs:List Int),vs=[.ref p,.ref a]∧WebAt T.Web H p m t ps rs∧SqX K c H a (xs.map V.int)∧xs.length≤1000 ∧
 (ax m xs=true→∀ l H',Same H H'→(H' l=some (.tup (xs.map V.int))∨(c=false∧l=a))→SqT K H' l (xs.map V.int)→Q (.ref l) H')∧(ax m xs=false→∀ H',Same H H'→E (.ref T.BadLaying) none H')
abbrev bD:Stmt:=top 23
theorem oF:FnScope ["web","numbers"] ["web","numbers"] (aa bD):=FnScope.of (by kernel_rfl)
theorem kg:NmL (aa bD) "web":=.of (by kernel_rfl)
theorem eG:NmL (aa bD) "numbers":=.of (by kernel_rfl)
theorem n_laying_of__is_filled:NmG (aa bD) "is_filled":=.of (by kernel_rfl)
theorem n_laying_of__BadLaying:NmG (aa bD) "BadLaying":=.of (by kernel_rfl)
theorem n_laying_of__tuple:NmG (aa bD) "tuple":=.of (by kernel_rfl)

theorem o8 (T:Txt K mg) (hq:aL (CXe P w)) {f:Addr} {fd:FuncData} (D:Df K mg "laying_of" bD ["web","numbers"] f fd) {f_is_filled:Addr} {fd_is_filled:FuncData} (D_is_filled:Df K mg "is_filled" bN ["web","numbers"] f_is_filled fd_is_filled) (G_is_filled:FnOk P w K mg base (CXe P w) 1 f_is_filled fd_is_filled ["web","numbers"] (ge T)):FnOk P w K mg base (CXe P w) 2 f fd ["web","numbers"] (gf T):=by
 refine D.F.okX oF (fun vs H Q E h=>?_) (fun cdv A outer s H vs Q E hr h=>?_)
 · obtain ⟨p,a,t,c,m,ps,rs,xs,rfl,_⟩:=h
   rfl
 · obtain ⟨p,a,t,c,m,ps,rs,xs,rfl,W,ha,hz,k,e⟩:=h
   refine ⟨_,(am (aX (fw (gh (aq G_is_filled (hr.mono (by decide)) n_laying_of__is_filled.g D_is_filled.m D_is_filled.F.kp D_is_filled.b .nil bh (ag (pvl 0 kg) (ag (pvl 1 eG) aj)) (hdb:=n_laying_of__is_filled.d)))) (ao (ie T.e_BadLaying rfl jO n_laying_of__BadLaying.g T.m_BadLaying (ag eA aj) (hdb:=n_laying_of__BadLaying.d))) aF) (ao (aB (cP cJ n_laying_of__tuple.g T.tuple d6 (ag (pvl 1 eG) aj) (hn:=n_laying_of__tuple.n) (hdb:=n_laying_of__tuple.d))))),?_⟩
   rw [show L2.start ["web","numbers"] [V.ref p,V.ref a]=[some (V.ref p),some (V.ref a)] from rfl]
   walk_at "rd"
   refine ⟨p,a,t,c,m,ps,rs,xs,rfl,W,ha,hz,fun H1 s1=>⟨_,rfl,?_⟩⟩
   by_cases z:ax m xs=false
   · rw [if_pos z]
     exact ⟨by decide,e z H1 s1⟩
   · rw [if_neg z]
     have z':ax m xs=true:=by simpa using z
     cases c
     · exact ⟨_,.inr ⟨Same.sqX (c:=false) s1 ha,k z' a H1 s1 (.inr ⟨rfl,rfl⟩) (Same.sqX (c:=false) s1 ha)⟩⟩
     · exact ⟨_,.inl ⟨Same.sqX (c:=true) s1 ha,fun l nl=>k z' l _ (s1.trans (Same.new _ nl)) (.inl ah) (SqT.of ah)⟩⟩
/-! #### wish_of -/
def lX (T:Txt K mg):Sp:=fun vs H Q E=>∃ (p a t:Addr) (c:Bool) (m:Int) (ps:List Addr) (rs:List Road) (xs:List Int),vs=[.ref p,.ref a]∧WebAt T.Web H p m t ps rs∧SqX K c H a (xs.map V.int)∧xs.length≤1000 ∧
 (ax m xs=true→∀ l H',Same H H'→SqT K H' l (xs.map V.int)→Q (.ref l) H')∧(ax m xs=false→∀ H',Same H H'→E (.ref T.BadWish) none H')
abbrev ce:Stmt:=top 39
theorem qU:FnScope ["web","numbers"] ["web","numbers"] (aa ce):=FnScope.of (by kernel_rfl)
theorem mE:NmL (aa ce) "web":=.of (by kernel_rfl)
theorem fD:NmL (aa ce) "numbers":=.of (by kernel_rfl)
theorem n_wish_of__is_filled:NmG (aa ce) "is_filled":=.of (by kernel_rfl)
theorem n_wish_of__BadWish:NmG (aa ce) "BadWish":=.of (by kernel_rfl)
theorem n_wish_of__tuple:NmG (aa ce) "tuple":=.of (by kernel_rfl)

theorem rD (T:Txt K mg) (hq:aL (CXe P w)) {f:Addr} {fd:FuncData} (D:Df K mg "wish_of" ce ["web","numbers"] f fd) {f_is_filled:Addr} {fd_is_filled:FuncData} (D_is_filled:Df K mg "is_filled" bN ["web","numbers"] f_is_filled fd_is_filled) (G_is_filled:FnOk P w K mg base (CXe P w) 1 f_is_filled fd_is_filled ["web","numbers"] (ge T)):FnOk P w K mg base (CXe P w) 2 f fd ["web","numbers"] (lX T):=by
 refine D.F.okX qU (fun vs H Q E h=>?_) (fun cdv A outer s H vs Q E hr h=>?_)
 · obtain ⟨p,a,t,c,m,ps,rs,xs,rfl,_⟩:=h
   rfl
 · obtain ⟨p,a,t,c,m,ps,rs,xs,rfl,W,ha,hz,k,e⟩:=h
   refine ⟨_,(am (aX (fw (gh (aq G_is_filled (hr.mono (by decide)) n_wish_of__is_filled.g D_is_filled.m D_is_filled.F.kp D_is_filled.b .nil bh (ag (pvl 0 mE) (ag (pvl 1 fD) aj)) (hdb:=n_wish_of__is_filled.d)))) (ao (ie T.e_BadWish rfl jO n_wish_of__BadWish.g T.m_BadWish (ag eA aj) (hdb:=n_wish_of__BadWish.d))) aF) (ao (aB (cP cJ n_wish_of__tuple.g T.tuple d6 (ag (pvl 1 fD) aj) (hn:=n_wish_of__tuple.n) (hdb:=n_wish_of__tuple.d))))),?_⟩
   rw [show L2.start ["web","numbers"] [V.ref p,V.ref a]=[some (V.ref p),some (V.ref a)] from rfl]
   walk_at "rd"
   refine ⟨p,a,t,c,m,ps,rs,xs,rfl,W,ha,hz,fun H1 s1=>⟨_,rfl,?_⟩⟩
   by_cases z:ax m xs=false
   · rw [if_pos z]
     exact ⟨by decide,e z H1 s1⟩
   · rw [if_neg z]
     have z':ax m xs=true:=by simpa using z
     cases c
     · exact ⟨_,.inr ⟨Same.sqX (c:=false) s1 ha,k z' a H1 s1 (Same.sqX (c:=false) s1 ha)⟩⟩
     · exact ⟨_,.inl ⟨Same.sqX (c:=true) s1 ha,fun l nl=>k z' l _ (s1.trans (Same.new _ nl)) (SqT.of ah)⟩⟩
/-! #### standings -/
def dB (T:Txt K mg):Sp:=fun vs H Q E=>∃ (p a b t:Addr) (c d:Bool) (m:Int) (ps:List Addr) (rs:List Road) (xs ys:List Int) (r:Int),vs=[.ref p,.ref a,.ref b,.int r]∧WebAt T.Web H p m t ps rs∧SqX K c H a (xs.map V.int)∧xs.length≤1000∧SqX K d H b (ys.map V.int)∧ys.length≤1000 ∧
 (ax m xs=true→ax m ys=true→0≤r→r < m→∃ par dep,Rooted m rs r par dep∧∀ l H',H l=none→Same H H'→H' l=some (.lst ((fM m rs r par dep (fun v=>(df m xs ys).getD v.toNat 0) (hnd rs par)).map V.int))→Q (.ref l) H') ∧
 (ax m xs=false→∀ H',Same H H'→E (.ref T.BadLaying) none H')∧(ax m xs=true→ax m ys=false→∀ H',Same H H'→E (.ref T.BadWish) none H')∧(ax m xs=true→ax m ys=true→¬ (0≤r∧r < m)→∀ H',Same H H'→E (.ref T.NoPlace) none H')
abbrev aE:Stmt:=top 40
theorem sc_standings:FnScope ["web","laying","wish","r","has","wanted","over","place","front"] ["web","laying","wish","r"] (aa aE):=FnScope.of (by kernel_rfl)
theorem cR:NmL (aa aE) "web":=.of (by kernel_rfl)
theorem iR:NmL (aa aE) "laying":=.of (by kernel_rfl)
theorem jW:NmL (aa aE) "wish":=.of (by kernel_rfl)
theorem l7:NmL (aa aE) "r":=.of (by kernel_rfl)
theorem n_standings__has:NmC (aa aE) "has":=.of (by kernel_rfl)
theorem n_standings__wanted:NmC (aa aE) "wanted":=.of (by kernel_rfl)
theorem n_standings__over:NmL (aa aE) "over":=.of (by kernel_rfl)
theorem n_standings__place:NmL (aa aE) "place":=.of (by kernel_rfl)
theorem n_standings__front:NmL (aa aE) "front":=.of (by kernel_rfl)
theorem n_standings__laying_of:NmG (aa aE) "laying_of":=.of (by kernel_rfl)
theorem n_standings__wish_of:NmG (aa aE) "wish_of":=.of (by kernel_rfl)
theorem n_standings__range:NmG (aa aE) "range":=.of (by kernel_rfl)
theorem n_standings__inward:NmG (aa aE) "inward":=.of (by kernel_rfl)
theorem n_standings__handed_on:NmG (aa aE) "handed_on":=.of (by kernel_rfl)

theorem pN (T:Txt K mg) (hq:aL (CXe P w)) {f:Addr} {fd:FuncData} (D:Df K mg "standings" aE ["web","laying","wish","r"] f fd) {f_handed_on:Addr} {fd_handed_on:FuncData} (D_handed_on:Df K mg "handed_on" bE ["web","over","place","front"] f_handed_on fd_handed_on) (G_handed_on:FnOk P w K mg base (CXe P w) 4 f_handed_on fd_handed_on ["web","over","place","front"] (gm T)) {f_inward:Addr} {fd_inward:FuncData} (D_inward:Df K mg "inward" bU ["web","r"] f_inward fd_inward) (G_inward:FnOk P w K mg base (CXe P w) 7 f_inward fd_inward ["web","r"] (gC T)) {f_laying_of:Addr} {fd_laying_of:FuncData} (D_laying_of:Df K mg "laying_of" bD ["web","numbers"] f_laying_of fd_laying_of) (G_laying_of:FnOk P w K mg base (CXe P w) 2 f_laying_of fd_laying_of ["web","numbers"] (gf T)) {f_wish_of:Addr} {fd_wish_of:FuncData} (D_wish_of:Df K mg "wish_of" ce ["web","numbers"] f_wish_of fd_wish_of) (G_wish_of:FnOk P w K mg base (CXe P w) 2 f_wish_of fd_wish_of ["web","numbers"] (lX T)):FnOk P w K mg base (CXe P w) 8 f fd ["web","laying","wish","r"] (dB T):=by
 refine D.F.okX sc_standings (fun vs H Q E h=>?_) (fun cdv A outer s H vs Q E hr h=>?_)
 · obtain ⟨p,a,b,t,c,d,m,ps,rs,xs,ys,r,rfl,_⟩:=h
   rfl
 · obtain ⟨p,a,b,t,c,d,m,ps,rs,xs,ys,r,rfl,W,ha,hz,hb,hy,k,e1,e2,e3⟩:=h
   have g:=W.go
   have m1:=g.m1
   have m24:=g.m24
   refine ⟨_,(am (ay (i:=4) sc_standings.nd rfl (Or.inr n_standings__has.l) (aq G_laying_of (hr.mono (by decide)) n_standings__laying_of.g D_laying_of.m D_laying_of.F.kp D_laying_of.b .nil bh (ag (pvl 0 cR) (ag (pvl 1 iR) aj)) (hdb:=n_standings__laying_of.d))) (am (ay (i:=5) sc_standings.nd rfl (Or.inr n_standings__wanted.l) (aq G_wish_of (hr.mono (by decide)) n_standings__wish_of.g D_wish_of.m D_wish_of.F.kp D_wish_of.b .nil bh (ag (pvl 0 cR) (ag (pvl 2 jW) aj)) (hdb:=n_standings__wish_of.d))) (am (qP (i:=6) sc_standings.nd rfl n_standings__over.l rfl (jI (Nc:=["place","has","wanted"]) 1 [4,5] (by decide +kernel) rfl (by decide +kernel) rfl (by show ∀ (y:Str × NameKind),y∈_→y.2=NameKind.free→(aa aE).names.lookup y.1=some NameKind.cell; decide +kernel) rfl (fun _ h=>eR h) (fun i hi=>match i,hi with | 0,_=>⟨"has",4,rfl,rfl,rfl,by decide +kernel⟩ | 1,_=>⟨"wanted",5,rfl,rfl,rfl,by decide +kernel⟩ | i + 2,hi=>absurd hi (by show ¬ i + 2 < 2; omega))) (gA n_standings__range.g T.range (ag (fG  (pvl 0 cR) rfl) aj)) (fun _ _ _ _=>(aO (i:=0) (show (["place","has","wanted"]:List Str).Nodup from by decide +kernel) rfl (Or.inl rfl))) (fun _ _ _ _=>g6) (fun _ _ _ _=>(au gO (aP (qv K rfl) (pv 1) (pv 0) (fun _ _=>rfl)) (aP (qv K rfl) (pv 2) (pv 0) (fun _ _=>rfl))))) (am (cD PassesOwn.leaving rfl (eU (aq G_inward (hr.mono (by decide)) n_standings__inward.g D_inward.m D_inward.F.kp D_inward.b .nil bh (ag (pvl 0 cR) (ag (pvl 3 l7) aj)) (hdb:=n_standings__inward.d))) (gk (n:=2) rfl (bX (aO (i:=7) sc_standings.nd rfl (Or.inl n_standings__place.l)) (bX (aO (i:=8) sc_standings.nd rfl (Or.inl n_standings__front.l)) fe))) (ao (l9 (pvl 6 n_standings__over) (pvl 8 n_standings__front) kL (aq G_handed_on (hr.mono (by decide)) n_standings__handed_on.g D_handed_on.m D_handed_on.F.kp D_handed_on.b .nil bh (ag (pvl 0 cR) (ag (aP bO (pvl 6 n_standings__over) (pvl 7 n_standings__place) (fun _ _=>rfl)) (ag (pvl 7 n_standings__place) (ag (pvl 8 n_standings__front) aj)))) (hdb:=n_standings__handed_on.d)) tj dD))) (ao (aB (pvl 6 n_standings__over))))))),?_⟩
   rw [show L2.start ["web","laying","wish","r","has","wanted","over","place","front"] [V.ref p,V.ref a,V.ref b,V.int r]=[some (V.ref p),some (V.ref a),some (V.ref b),some (V.int r),none,none,none,none,none] from rfl]
   walk_at "rd"
   refine ⟨p,a,t,c,m,ps,rs,xs,rfl,W,ha,hz,fun fi la H1 s1 _ ea=>?_,e1⟩
   refine ⟨p,b,t,d,m,ps,rs,ys,rfl,W.same s1,Same.sqX s1 hb,hy,fun fj lb H2 s2 eb=>?_,fun fj H2 s2=>e2 fi fj H2 (s1.trans s2)⟩
   have lens:∀ {zs:List Int},ax m zs=true→(zs.length:Int)=m:=fun {zs} f=>by
     unfold ax at f
     rw [Bool.and_eq_true] at f
     exact of_decide_eq_true f.1
   have xl:=lens fi
   have yl:=lens fj
   have s12:=s1.trans s2
   have W2:=W.same s12
   obtain ⟨dx,ob⟩:=W2.ob
   refine ⟨T.Web,dx,_,ob,T.cl_Web,T.n_many,_,eJ m t,m,rfl,by omega,by omega,fun lo no=>?_⟩
   have ea2:=Same.tup s2 ea
   refine lV (fun i zs σ H3=>Same H2 H3∧H3 lo=some (.lst zs)∧zs=((List.range i).map fun i=>xs.getD i 0 - ys.getD i 0).map V.int∧∃ v,σ=[v,some (V.ref la),some (V.ref lb)]) ⟨Same.new _ no,ah,rfl,_,rfl⟩ ?_ ?_
   · rintro i zs σ H3 N hN hi ⟨s3,e3',rfl,v,rfl⟩
     rw [Int.zero_add]
     have i0:(0:Int)≤(i:Int):=by omega
     have ga:=atG (xs:=xs) i0 (by omega)
     have gb:=atG (xs:=ys) i0 (by omega)
     rw [Int.toNat_natCast] at ga gb
     walk_at "rd"
     refine wE (Same.tup s3 ea2) ga (wE (Same.tup s3 eb) gb ⟨_,rfl,_,rfl,e3',cr (by simp; omega),hN _ _ _ ⟨s3.put no _,ah,?_,_,rfl⟩⟩)
     rw [List.range_succ,List.map_append,List.map_append]
     rfl
   · rintro zs σ H3 ⟨s3,e3',rfl,v,rfl⟩
     have no0:=s12.free no
     have s13:=s12.trans s3
     have ol:=tV (m:=m) (by omega) xs ys
     change H3 lo=some (.lst ((df m xs ys).map V.int)) at e3'
     refine ⟨p,t,m,ps,rs,r,rfl,W.same s13,fun r0 r1=>?_,fun z=>e3 fi fj z H3 s13⟩
     obtain ⟨par,dep,R,k⟩:=k fi fj r0 r1
     refine ⟨par,dep,R,fun l2 qs tl H4 _ n2 s4 e4 pa O=>?_⟩
     have nll:l2≠lo:=fun z=>by rw [z,e3'] at n2; cases n2
     refine ⟨l2,rfl,⟨_,SqL.of e4⟩,?_⟩
     have ql:qs.length=tl.reverse.length:=Paired.length pa
     refine jb (K:=K) (xs:=qs.map V.ref) (fun i σ H5=>Same H H5∧H5 l2=some (.lst (qs.map V.ref))∧PairsAt H5 par qs tl.reverse∧∃ (cs:List Int) (v4 v5:Option V),H5 lo=some (.lst (cs.map V.int))∧Sofar m rs r par dep (fun v=>(df m xs ys).getD v.toNat 0) (hnd rs par) (tl.drop (tl.length - i)) cs∧σ=[some (V.ref p),some (V.ref a),some (V.ref b),some (V.int r),some (V.ref la),some (V.ref lb),some (V.ref lo),v4,v5]) ⟨s13.trans s4,e4,pa,df m xs ys,_,_,s4 _ _ e3',by rw [Nat.sub_zero,List.drop_length]; exact Sofar.nil ol,rfl⟩ (fun i σ H5 _ z=>SqL.of z.2.1) ?_ ?_
     · rintro i x σ H5 N hN hx ⟨s5,e5,pa5,cs,v4,v5,c5,so,rfl⟩
       obtain ⟨q,v,rfl,hq,hv,eq⟩:=pa5.get hx
       obtain ⟨⟨vr,vn⟩,ev,so'⟩:=O.turn g R so hv
       have u:=R.up v vr.1 vr.2 vn
       obtain ⟨kk,hk,k0,k1⟩:=md g R vr.1 vr.2 vn
       obtain ⟨kd,hd,d0,d1⟩:=me g R vr.1 vr.2 vn
       have cl:=so.len
       walk_at "rd"
       refine ⟨_,SqT.of eq,rfl,_,_,rfl,_,_,rfl,rfl,?_⟩
       refine ixL c5 (atG u.1.1 (by omega)) (ixL c5 (atG vr.1 (by omega)) ?_)
       refine ⟨p,t,m,ps,rs,_,v,par v,kk,kd,rfl,W.same s5,vr,u.1,hk,hd,⟨k0,k1⟩,⟨d0,d1⟩,?_⟩
       refine ⟨_,rfl,_,rfl,kq c5 u.1.1 (by rw [List.length_map]; omega) (hN _ _ ⟨s5.put no0 _,?_,?_,jC par (hnd rs par) cs v,_,_,?_,so',rfl⟩)⟩
       · rw [ap nll]; exact e5
       · exact Paired.imp' (fun a b h=>by rw [ap (eu h c5 (by intro z; cases z))]; exact h) pa5
       · rw [ah,← List.map_set]
         unfold jC hnd
         rw [hk,hd]
         rfl
     · rintro σ H5 ⟨s5,e5,pa5,cs,v4,v5,c5,so,rfl⟩
       rw [List.length_map,ql,List.length_reverse,Nat.sub_self,List.drop_zero] at so
       rw [O.done g R so] at c5
       walk_at "rd"
       exact k lo H5 no0 s5 c5
/-! #### standing -/
def fk (T:Txt K mg):Sp:=fun vs H Q E=>∃ (p a b t:Addr) (c d:Bool) (m:Int) (ps:List Addr) (rs:List Road) (xs ys:List Int) (r:Int),vs=[.ref p,.ref a,.ref b,.int r]∧WebAt T.Web H p m t ps rs∧SqX K c H a (xs.map V.int)∧xs.length≤1000∧SqX K d H b (ys.map V.int)∧ys.length≤1000 ∧
 (ax m xs=true→ax m ys=true→0≤r→r < m→∃ par dep,Rooted m rs r par dep∧∀ H',Same H H'→Q (.int (gat m rs r par dep (fun v=>(df m xs ys).getD v.toNat 0) (hnd rs par) r)) H') ∧
 (ax m xs=false→∀ H',Same H H'→E (.ref T.BadLaying) none H')∧(ax m xs=true→ax m ys=false→∀ H',Same H H'→E (.ref T.BadWish) none H')∧(ax m xs=true→ax m ys=true→¬ (0≤r∧r < m)→∀ H',Same H H'→E (.ref T.NoPlace) none H')
abbrev bJ:Stmt:=top 42
theorem pY:FnScope ["web","laying","wish","r"] ["web","laying","wish","r"] (aa bJ):=FnScope.of (by kernel_rfl)
theorem lM:NmL (aa bJ) "web":=.of (by kernel_rfl)
theorem jA:NmL (aa bJ) "laying":=.of (by kernel_rfl)
theorem kJ:NmL (aa bJ) "wish":=.of (by kernel_rfl)
theorem iB:NmL (aa bJ) "r":=.of (by kernel_rfl)
theorem n_standing__standings:NmG (aa bJ) "standings":=.of (by kernel_rfl)

theorem pS (T:Txt K mg) (hq:aL (CXe P w)) {f:Addr} {fd:FuncData} (D:Df K mg "standing" bJ ["web","laying","wish","r"] f fd) {f_standings:Addr} {fd_standings:FuncData} (D_standings:Df K mg "standings" aE ["web","laying","wish","r"] f_standings fd_standings) (G_standings:FnOk P w K mg base (CXe P w) 8 f_standings fd_standings ["web","laying","wish","r"] (dB T)):FnOk P w K mg base (CXe P w) 9 f fd ["web","laying","wish","r"] (fk T):=by
 refine D.F.okX pY (fun vs H Q E h=>?_) (fun cdv A outer s H vs Q E hr h=>?_)
 · obtain ⟨p,a,b,t,c,d,m,ps,rs,xs,ys,r,rfl,_⟩:=h
   rfl
 · obtain ⟨p,a,b,t,c,d,m,ps,rs,xs,ys,r,rfl,W,ha,hz,hb,hy,k,e1,e2,e3⟩:=h
   refine ⟨_,(ao (aB (aP bO (aq G_standings (hr.mono (by decide)) n_standing__standings.g D_standings.m D_standings.F.kp D_standings.b .nil bh (ag (pvl 0 lM) (ag (pvl 1 jA) (ag (pvl 2 kJ) (ag (pvl 3 iB) aj)))) (hdb:=n_standing__standings.d)) (pvl 3 iB) (fun _ _=>rfl)))),?_⟩
   rw [show L2.start ["web","laying","wish","r"] [V.ref p,V.ref a,V.ref b,V.int r]=[some (V.ref p),some (V.ref a),some (V.ref b),some (V.int r)] from rfl]
   walk_at "rd"
   refine ⟨p,a,b,t,c,d,m,ps,rs,xs,ys,r,rfl,W,ha,hz,hb,hy,fun fi fj r0 r1=>?_,e1,e2,e3⟩
   obtain ⟨par,dep,R,k⟩:=k fi fj r0 r1
   refine ⟨par,dep,R,fun l H1 n1 s1 e1=>?_⟩
   refine ixL e1 (atG r0 ?_) ?_
   · unfold fM; rw [List.length_map,bL]; omega
   · rw [ko r0 r1]
     exact k H1 s1
/-! #### is_met -/
def gG (T:Txt K mg):Sp:=fun vs H Q E=>∃ (p a b t:Addr) (c d:Bool) (m:Int) (ps:List Addr) (rs:List Road) (xs ys:List Int),vs=[.ref p,.ref a,.ref b]∧WebAt T.Web H p m t ps rs∧SqX K c H a (xs.map V.int)∧xs.length≤1000∧SqX K d H b (ys.map V.int)∧ys.length≤1000 ∧
 (ax m xs=true→ax m ys=true→∃ par dep,Rooted m rs 0 par dep∧∀ H',Same H H'→Q (.bl (decide (0≤gat m rs 0 par dep (fun v=>(df m xs ys).getD v.toNat 0) (hnd rs par) 0))) H') ∧
 (ax m xs=false→∀ H',Same H H'→E (.ref T.BadLaying) none H')∧(ax m xs=true→ax m ys=false→∀ H',Same H H'→E (.ref T.BadWish) none H')
abbrev ci:Stmt:=top 43
theorem tY:FnScope ["web","laying","wish"] ["web","laying","wish"] (aa ci):=FnScope.of (by kernel_rfl)
theorem nU:NmL (aa ci) "web":=.of (by kernel_rfl)
theorem kR:NmL (aa ci) "laying":=.of (by kernel_rfl)
theorem mn:NmL (aa ci) "wish":=.of (by kernel_rfl)
theorem n_is_met__standing:NmG (aa ci) "standing":=.of (by kernel_rfl)

theorem tU (T:Txt K mg) (hq:aL (CXe P w)) {f:Addr} {fd:FuncData} (D:Df K mg "is_met" ci ["web","laying","wish"] f fd) {f_standing:Addr} {fd_standing:FuncData} (D_standing:Df K mg "standing" bJ ["web","laying","wish","r"] f_standing fd_standing) (G_standing:FnOk P w K mg base (CXe P w) 9 f_standing fd_standing ["web","laying","wish","r"] (fk T)):FnOk P w K mg base (CXe P w) 10 f fd ["web","laying","wish"] (gG T):=by
 refine D.F.okX tY (fun vs H Q E h=>?_) (fun cdv A outer s H vs Q E hr h=>?_)
 · obtain ⟨p,a,b,t,c,d,m,ps,rs,xs,ys,rfl,_⟩:=h
   rfl
 · obtain ⟨p,a,b,t,c,d,m,ps,rs,xs,ys,rfl,W,ha,hz,hb,hy,k,e1,e2⟩:=h
   have m1:=W.go.m1
   refine ⟨_,(ao (aB (d9 jL (aq G_standing (hr.mono (by decide)) n_is_met__standing.g D_standing.m D_standing.F.kp D_standing.b .nil bh (ag (pvl 0 nU) (ag (pvl 1 kR) (ag (pvl 2 mn) (ag ak aj)))) (hdb:=n_is_met__standing.d)) ak (aJ _)))),?_⟩
   rw [show L2.start ["web","laying","wish"] [V.ref p,V.ref a,V.ref b]=[some (V.ref p),some (V.ref a),some (V.ref b)] from rfl]
   walk_at "rd"
   refine ⟨p,a,b,t,c,d,m,ps,rs,xs,ys,0,rfl,W,ha,hz,hb,hy,fun fi fj _ _=>?_,e1,e2,fun _ _ z=>absurd ⟨Int.le_refl _,by omega⟩ z⟩
   obtain ⟨par,dep,R,k⟩:=k fi fj
   exact ⟨par,dep,R,fun H' s'=>⟨_,rfl,k H' s'⟩⟩
/-! #### lacks_of -/
theorem tR {m:Int} {rs:List Road} {PAR:Int→Int→Int} {DEP:Int→Int→Nat} {xs ys:List Int} {i:Nat}:ik m rs PAR DEP xs ys (i + 1)=ik m rs PAR DEP xs ys i ++ [gat m rs i (PAR i) (DEP i) (fun v=>(df m xs ys).getD v.toNat 0) (hnd rs (PAR i)) i]:=by
 unfold ik
 rw [qY,List.map_append]
 rfl
def fo (T:Txt K mg):Sp:=fun vs H Q _=>∃ (p a b t:Addr) (c d:Bool) (m:Int) (ps:List Addr) (rs:List Road) (xs ys:List Int) (PAR:Int→Int→Int) (DEP:Int→Int→Nat),vs=[.ref p,.ref a,.ref b]∧WebAt T.Web H p m t ps rs∧SqX K c H a (xs.map V.int)∧ax m xs=true∧SqX K d H b (ys.map V.int)∧ax m ys=true∧(∀ r,0≤r→r < m→Rooted m rs r (PAR r) (DEP r)) ∧
 ∀ l H',H l=none→Same H H'→H' l=some (.tup (((ik m rs PAR DEP xs ys m.toNat).map fun x=>-x).map V.int))→Q (.ref l) H'
abbrev bI:Stmt:=top 47
theorem qb:FnScope ["web","laying","wish"] ["web","laying","wish"] (aa bI):=FnScope.of (by kernel_rfl)
theorem lG:NmC (aa bI) "web":=.of (by kernel_rfl)
theorem sS:NmC (aa bI) "laying":=.of (by kernel_rfl)
theorem wm:NmC (aa bI) "wish":=.of (by kernel_rfl)
theorem n_lacks_of__tuple:NmG (aa bI) "tuple":=.of (by kernel_rfl)
theorem n_lacks_of__range:NmG (aa bI) "range":=.of (by kernel_rfl)

theorem p7 (T:Txt K mg) (hq:aL (CXe P w)) {f:Addr} {fd:FuncData} (D:Df K mg "lacks_of" bI ["web","laying","wish"] f fd) {f_standing:Addr} {fd_standing:FuncData} (D_standing:Df K mg "standing" bJ ["web","laying","wish","r"] f_standing fd_standing) (G_standing:FnOk P w K mg base (CXe P w) 9 f_standing fd_standing ["web","laying","wish","r"] (fk T)):FnOk P w K mg base (CXe P w) 10 f fd ["web","laying","wish"] (fo T):=by
 refine D.F.okC qb (fun vs H Q E h=>?_) (fun cdv A outer s H vs Q E hr h=>?_)
 · obtain ⟨p,a,b,t,c,d,m,ps,rs,xs,ys,PAR,DEP,rfl,_⟩:=h
   rfl
 · obtain ⟨p,a,b,t,c,d,m,ps,rs,xs,ys,PAR,DEP,rfl,W,ha,fx,hb,fy,RR,k⟩:=h
   have g:=W.go
   have m24:=g.m24
   have m1:=g.m1
   have xl:=cW fx
   have yl:=cW fy
   obtain ⟨dx,ob⟩:=W.ob
   refine ⟨_,(ao (aB (cP cJ n_lacks_of__tuple.g T.tuple d6 (ag (f8 rfl (jI (Nc:=["r","web","laying","wish"]) 1 [0,1,2] (by decide +kernel) rfl (by decide +kernel) rfl (by show ∀ (y:Str × NameKind),y∈_→y.2=NameKind.free→(aa bI).names.lookup y.1=some NameKind.cell; decide +kernel) rfl (fun _ h=>eR h) (fun i hi=>match i,hi with | 0,_=>⟨"web",0,rfl,rfl,rfl,by decide +kernel⟩ | 1,_=>⟨"laying",1,rfl,rfl,rfl,by decide +kernel⟩ | 2,_=>⟨"wish",2,rfl,rfl,rfl,by decide +kernel⟩ | i + 3,hi=>absurd hi (by show ¬ i + 3 < 3; omega))) (gA n_lacks_of__range.g T.range (ag (fG  (pvc 0 lG) rfl) aj)) (fun _ _ _ _=>(aO (i:=0) (show (["r","web","laying","wish"]:List Str).Nodup from by decide +kernel) rfl (Or.inl rfl))) (fun _ _ _ _=>g6) (fun _ _ _ _=>(fY eE (aq G_standing (hr.mono (by decide)) (by rfl) D_standing.m D_standing.F.kp D_standing.b .nil (aS hq) (ag (pv 1) (ag (pv 2) (ag (pv 3) (ag (pv 0) aj)))))))) aj) (hn:=n_lacks_of__tuple.n) (hdb:=n_lacks_of__tuple.d)))),?_⟩
   rw [show L2.start ["web","laying","wish"] [V.ref p,V.ref a,V.ref b]=[some (V.ref p),some (V.ref a),some (V.ref b)] from rfl]
   walk_at "rd"
   refine ⟨T.Web,dx,_,ob,T.cl_Web,T.n_many,_,eJ m t,m,rfl,by omega,by omega,fun pc nc=>?_⟩
   refine lV (fun i zs σ H3=>Same H H3∧H3 pc=some (.lst zs)∧zs=((ik m rs PAR DEP xs ys i).map fun x=>-x).map V.int∧∃ v,σ=[v,some (V.ref p),some (V.ref a),some (V.ref b)]) ⟨Same.new _ nc,ah,rfl,_,rfl⟩ ?_ ?_
   · rintro i zs σ H3 N hN hi ⟨s3,e3,rfl,v,rfl⟩
     rw [Int.zero_add]
     have i0:(0:Int)≤(i:Int):=by omega
     have i1:(i:Int) < m:=by omega
     walk_at "rd"
     refine ⟨p,a,b,t,c,d,m,ps,rs,xs,ys,(i:Int),rfl,W.same s3,Same.sqX s3 ha,by omega,Same.sqX s3 hb,by omega,fun _ _ _ _=>⟨PAR i,DEP i,RR i i0 i1,fun H4 s4=>?_⟩,(fun z=>by rw [fx] at z; cases z),(fun _ z=>by rw [fy] at z; cases z),fun _ _ z=>absurd ⟨i0,i1⟩ z⟩
     refine ⟨_,rfl,s4 _ _ e3,cr (by rw [List.length_map,List.length_map,yf]; omega),hN _ _ _ ⟨(s3.trans s4).put nc _,ah,?_,_,rfl⟩⟩
     rw [tR,List.map_append,List.map_append]
     rfl
   · rintro zs σ H3 ⟨s3,e3,rfl,v,rfl⟩
     refine ⟨pc,rfl,_,.inl ⟨SqL.of e3,fun l nl=>?_⟩⟩
     exact k l _ (s3.free nl) (s3.trans (Same.new _ nl)) ah
/-! #### covers -/
/-- whether the first row has at yj as much at each place -/
def jH (xs ys:List Int):Bool:=(xs.zip ys).all fun p=>decide (p.2≤p.1)
def nh (T:Txt K mg):Sp:=fun vs H Q _=>∃ (a b:Addr) (c d:Bool) (xs ys:List Int),vs=[.ref a,.ref b]∧SqX K c H a (xs.map V.int)∧SqX K d H b (ys.map V.int)∧xs.length≤1000∧∀ H',Same H H'→Q (.bl (jH xs ys)) H'
abbrev cG:Stmt:=top 25
theorem ut:FnScope ["laying","numbers"] ["laying","numbers"] (aa cG):=FnScope.of (by kernel_rfl)
theorem ku:NmL (aa cG) "laying":=.of (by kernel_rfl)
theorem jR:NmL (aa cG) "numbers":=.of (by kernel_rfl)
theorem n_covers__all:NmG (aa cG) "all":=.of (by kernel_rfl)
theorem n_covers__zip:NmG (aa cG) "zip":=.of (by kernel_rfl)

theorem sH (T:Txt K mg) (hq:aL (CXe P w)) {f:Addr} {fd:FuncData} (D:Df K mg "covers" cG ["laying","numbers"] f fd):FnOk P w K mg base (CXe P w) 1 f fd ["laying","numbers"] (nh T):=by
 refine D.F.okC ut (fun vs H Q E h=>?_) (fun cdv A outer s H vs Q E hr h=>?_)
 · obtain ⟨a,b,c,d,xs,ys,rfl,_⟩:=h
   rfl
 · obtain ⟨a,b,c,d,xs,ys,rfl,ha,hb,hz,k⟩:=h
   refine ⟨_,(ao (aB (bQ (oM rfl) n_covers__all.g T.all tX (ag (f8 rfl (kT (Nc:=["has","least"]) 2 (by decide +kernel) (by decide +kernel) rfl (by decide +kernel) rfl) (zC c d n_covers__zip.g T.zip (ag (pvl 0 ku) (ag (pvl 1 jR) aj))) (fun _ _ _ _=>(y3 K rfl (n:=2) rfl (bX (aO (i:=0) (show (["has","least"]:List Str).Nodup from by decide +kernel) rfl (Or.inl rfl)) (bX (aO (i:=1) (show (["has","least"]:List Str).Nodup from by decide +kernel) rfl (Or.inl rfl)) fe)))) (fun _ _ _ _=>g6) (fun _ _ _ _=>(d9 jL (pv 0) (pv 1) (aJ _)))) aj) (hn:=n_covers__all.n) (hdb:=n_covers__all.d)))),?_⟩
   rw [show L2.start ["laying","numbers"] [V.ref a,V.ref b]=[some (V.ref a),some (V.ref b)] from rfl]
   walk_at "rd"
   refine ⟨a,b,⟨rfl,rfl⟩,⟨_,ha⟩,⟨_,hb⟩,fun p hp=>?_⟩
   refine xz (K:=K) (c:=c) (d:=d) (xs:=xs.map V.int) (zs:=ys.map V.int) (fun i bs σ H2=>Same H H2∧H2 p=some (.lst bs)∧bs=(((xs.zip ys).take i).map fun q=>decide (q.2≤q.1)).map V.bl∧∃ v w,σ=[v,w]) ⟨Same.new _ hp,ah,rfl,_,_,rfl⟩ (fun i bs σ H2 z=>⟨Same.sqX z.1 ha,Same.sqX z.1 hb⟩) ?_ ?_
   · rintro i x z bs σ H2 q N hN hx hz' ⟨s2,e2,rfl,v,w,rfl⟩ hq
     rw [List.getElem?_map] at hx hz'
     obtain ⟨x,gx,rfl⟩:=Option.map_eq_some_iff.mp hx
     obtain ⟨z,gz,rfl⟩:=Option.map_eq_some_iff.mp hz'
     have s3:=Same.new (.tup [V.int x,V.int z]) hq
     have hix:=(List.getElem?_eq_some_iff.mp gx).1
     walk_at "rd"
     refine ⟨_,SqT.of ah,rfl,_,_,rfl,_,_,rfl,rfl,?_⟩
     walk_at "rd"
     refine ⟨s3 _ _ e2,cr (by simp; omega),hN _ _ _ ⟨(s2.trans s3).put hp _,ah,?_,_,_,rfl⟩⟩
     have hzz:(xs.zip ys)[i]?=some (x,z):=by rw [List.getElem?_zip_eq_some]; exact ⟨gx,gz⟩
     rw [List.take_succ,hzz,List.map_append,List.map_append]
     rfl
   · rintro bs σ H2 ⟨s2,e2,rfl,v,w,rfl⟩
     refine ⟨p,rfl,_,SqL.of e2,?_⟩
     have e:(((xs.zip ys).take (min (xs.map V.int).length (ys.map V.int).length)).map fun q=>decide (q.2≤q.1)).all id=jH xs ys:=by
       rw [List.take_of_length_le (by rw [List.length_zip,List.length_map,List.length_map]; exact Nat.le_refl _),List.all_map]
       rfl
     rw [e]
     exact k _ s2
/-! #### BadStep.__init__ -/
def eM (T:Txt K mg):Sp:=fun vs H Q _=>∃ (ea fI:Addr) (n:Int),vs=[.ref ea,.int n]∧H ea=some (ExN ea (.ref T.BadStep) none)∧jD K T.BadStep fI∧∀ dx,H dx=none→dx≠ea→Q .non (upd (upd H ea (ExN ea (.ref T.BadStep) (some dx))) dx (.xd [("at",.int n)]))
abbrev be:Stmt:=qz (top 7) 0
theorem iS:FnScope ["self","at"] ["self","at"] (aa be):=FnScope.of (by kernel_rfl)
theorem dF:NmL (aa be) "self":=.of (by kernel_rfl)
theorem dY:NmL (aa be) "at":=.of (by kernel_rfl)
theorem n_BadStep___init____TollError:NmG (aa be) "TollError":=.of (by kernel_rfl)

theorem iM (T:Txt K mg) (hq:aL (CXe P w)) {f:Addr} {fd:FuncData} (F:Fun K "__init__" "BadStep.__init__" be f fd):FnOk P w K mg base (CXe P w) 1 f fd ["self","at"] (eM T):=by
 refine F.okC iS (fun vs H Q E h=>?_) (fun cdv A outer s H vs Q E hr h=>?_)
 · obtain ⟨ea,fI,n,rfl,_⟩:=h
   rfl
 · obtain ⟨ea,fI,n,rfl,he,xo,k⟩:=h
   refine ⟨_,(am (bG (p8 T.b_TollError n_BadStep___init____TollError.g T.m_TollError (ag (pvl 0 dF) (ag (pvl 1 dY) aj)) (hdb:=n_BadStep___init____TollError.d))) (ao (yG rfl (pvl 0 dF) (pvl 1 dY) rfl))),?_⟩
   rw [show L2.start ["self","at"] [V.ref ea,V.int n]=[some (V.ref ea),some (V.int n)] from rfl]
   show ∃ v,_
   refine ⟨V.ref ea,rfl,V.int n,rfl,?_⟩
   refine ⟨ea,T.BadStep,fI,none,[V.int n],rfl,aD (by simp),xo,he,?_⟩
   show ∃ v,_
   refine ⟨V.int n,rfl,V.ref ea,rfl,?_⟩
   exact ⟨ea,T.BadStep,T.TollError,rfl,he,T.s_BadStep,k⟩
/-! #### taken -/
def kc (T:Txt K mg):Sp:=fun vs H Q _=>∃ (p q t:Addr) (m:Int) (ps:List Addr) (rs:List Road) (s:Stp),vs=[.ref p,.ref q]∧WebAt T.Web H p m t ps rs∧H q=some (.tup (vSt s))∧fq m rs s=true∧Q (.int (s.2.2 * ft rs s.1 s.2.1)) H
abbrev cU:Stmt:=top 31
theorem xc:FnScope ["web","step"] ["web","step"] (aa cU):=FnScope.of (by kernel_rfl)
theorem pR:NmL (aa cU) "web":=.of (by kernel_rfl)
theorem fK:NmL (aa cU) "step":=.of (by kernel_rfl)
theorem n_taken__toll:NmG (aa cU) "toll":=.of (by kernel_rfl)

theorem wS (T:Txt K mg) (hq:aL (CXe P w)) {f:Addr} {fd:FuncData} (D:Df K mg "taken" cU ["web","step"] f fd) {f_toll:Addr} {fd_toll:FuncData} (D_toll:Df K mg "toll" cz ["web","a","b"] f_toll fd_toll) (G_toll:FnOk P w K mg base (CXe P w) 3 f_toll fd_toll ["web","a","b"] (mw T)):FnOk P w K mg base (CXe P w) 4 f fd ["web","step"] (kc T):=by
 refine D.F.okC xc (fun vs H Q E h=>?_) (fun cdv A outer s H vs Q E hr h=>?_)
 · obtain ⟨p,q,t,m,ps,rs,s,rfl,_⟩:=h
   rfl
 · obtain ⟨p,q,t,m,ps,rs,s,rfl,W,hs,is,k⟩:=h
   have g:=W.go
   obtain ⟨kk,e1,e2,kr,br⟩:=mZ g is
   have ar:=(ig is).1
   refine ⟨_,(ao (aB (au eI (aP bF (pvl 1 fK) ak (fun _ _=>rfl)) (aq G_toll (hr.mono (by decide)) n_taken__toll.g D_toll.m D_toll.F.kp D_toll.b .nil (aS hq) (ag (pvl 0 pR) (ag (aP bF (pvl 1 fK) ak (fun _ _=>rfl)) (ag (aP bF (pvl 1 fK) ak (fun _ _=>rfl)) aj))) (hdb:=n_taken__toll.d))))),?_⟩
   rw [show L2.start ["web","step"] [V.ref p,V.ref q]=[some (V.ref p),some (V.ref q)] from rfl]
   walk_at "rd"
   refine ixT hs rfl (ixT hs rfl (ixT hs rfl ?_))
   refine ex7 p t m ps rs s.1 s.2.1 ?_
   refine an5 rfl W (fun k' _ _ _ _ h=>?_) (fun z=>absurd ⟨ar,br⟩ z) (fun _ _ _ _ z=>by rw [e1] at z; cases z)
   rw [e1] at h
   cases h
   rw [e2] at k
   exact ⟨_,rfl,_,rfl,.inr ⟨by omega,by omega⟩,k⟩
/-! #### behind -/
def nu (T:Txt K mg):Sp:=fun vs H Q _=>∃ (p a q t:Addr) (m:Int) (ps:List Addr) (rs:List Road) (xs:List Int) (s:Stp),vs=[.ref p,.ref a,.ref q]∧WebAt T.Web H p m t ps rs∧SqT K H a (xs.map V.int)∧(xs.length:Int)=m∧H q=some (.tup (vSt s))∧fq m rs s=true∧∀ l H',H l=none→Same H H'→H' l=some (.tup ((ip rs xs s).map V.int))→Q (.ref l) H'
abbrev b9:Stmt:=top 32
theorem sc_behind:FnScope ["web","laying","step","counts"] ["web","laying","step"] (aa b9):=FnScope.of (by kernel_rfl)
theorem nR:NmL (aa b9) "web":=.of (by kernel_rfl)
theorem kn:NmL (aa b9) "laying":=.of (by kernel_rfl)
theorem dL:NmL (aa b9) "step":=.of (by kernel_rfl)
theorem n_behind__counts:NmL (aa b9) "counts":=.of (by kernel_rfl)
theorem n_behind__list:NmG (aa b9) "list":=.of (by kernel_rfl)
theorem n_behind__taken:NmG (aa b9) "taken":=.of (by kernel_rfl)
theorem n_behind__tuple:NmG (aa b9) "tuple":=.of (by kernel_rfl)

theorem tS (T:Txt K mg) (hq:aL (CXe P w)) {f:Addr} {fd:FuncData} (D:Df K mg "behind" b9 ["web","laying","step"] f fd) {f_taken:Addr} {fd_taken:FuncData} (D_taken:Df K mg "taken" cU ["web","step"] f_taken fd_taken) (G_taken:FnOk P w K mg base (CXe P w) 4 f_taken fd_taken ["web","step"] (kc T)):FnOk P w K mg base (CXe P w) 5 f fd ["web","laying","step"] (nu T):=by
 refine D.F.okC sc_behind (fun vs H Q E h=>?_) (fun cdv A outer s H vs Q E hr h=>?_)
 · obtain ⟨p,a,q,t,m,ps,rs,xs,s,rfl,_⟩:=h
   rfl
 · obtain ⟨p,a,q,t,m,ps,rs,xs,s,rfl,W,ha,xl,hs,is,k⟩:=h
   have g:=W.go
   have m24:=g.m24
   obtain ⟨kk,e1,e2,kr,br⟩:=mZ g is
   have ar:=(ig is).1
   refine ⟨_,(am (ay (i:=3) sc_behind.nd rfl (Or.inl n_behind__counts.l) (cP gd n_behind__list.g T.list mB (ag (pvl 1 kn) aj) (hn:=n_behind__list.n) (hdb:=n_behind__list.d))) (am (l9 (pvl 3 n_behind__counts) (aP bF (pvl 2 dL) ak (fun _ _=>rfl)) kL (aq G_taken (hr.mono (by decide)) n_behind__taken.g D_taken.m D_taken.F.kp D_taken.b .nil (aS hq) (ag (pvl 0 nR) (ag (pvl 2 dL) aj)) (hdb:=n_behind__taken.d)) zA dD) (am (l9 (pvl 3 n_behind__counts) (aP bF (pvl 2 dL) ak (fun _ _=>rfl)) kL (aP bF (pvl 2 dL) ak (fun _ _=>rfl)) tj dD) (ao (aB (cP cJ n_behind__tuple.g T.tuple d6 (ag (pvl 3 n_behind__counts) aj) (hn:=n_behind__tuple.n) (hdb:=n_behind__tuple.d))))))),?_⟩
   rw [show L2.start ["web","laying","step","counts"] [V.ref p,V.ref a,V.ref q]=[some (V.ref p),some (V.ref a),some (V.ref q),none] from rfl]
   walk_at "rd"
   refine ⟨_,.inr ha,fun l nl=>?_⟩
   have s1:=Same.new (.lst (xs.map V.int)) nl
   have hs1:=s1 _ _ hs
   have el:upd H l (.lst (xs.map V.int)) l=some (.lst (xs.map V.int)):=ah
   generalize upd H l (.lst (xs.map V.int))=H1 at s1 hs1 el ⊢
   refine ixT hs1 rfl (ixL el (atG ar.1 (by omega)) ?_)
   refine ex7 p q t m ps rs s ?_
   refine an5 rfl (W.same s1) hs1 is ?_
   refine ⟨_,rfl,_,rfl,kq el ar.1 (by rw [List.length_map]; omega) ?_⟩
   rw [← List.map_set]
   have nql:q≠l:=eu hs1 el (by intro z; cases z)
   have yl:(xs.set s.1.toNat (xs.getD s.1.toNat 0 - s.2.2 * ft rs s.1 s.2.1)).length=xs.length:=by rw [List.length_set]
   have hk:ip rs xs s=(xs.set s.1.toNat (xs.getD s.1.toNat 0 - s.2.2 * ft rs s.1 s.2.1)).set s.2.1.toNat ((xs.set s.1.toNat (xs.getD s.1.toNat 0 - s.2.2 * ft rs s.1 s.2.1)).getD s.2.1.toNat 0 + s.2.2):=rfl
   generalize xs.set s.1.toNat (xs.getD s.1.toNat 0 - s.2.2 * ft rs s.1 s.2.1)=ys at yl hk ⊢
   have hs2:upd H1 l (.lst (ys.map V.int)) q=some (.tup (vSt s)):=by rw [ap nql]; exact hs1
   refine ixT hs2 rfl (ixL ah (atG br.1 (by omega)) (ixT hs2 rfl ⟨_,rfl,_,rfl,kq ah br.1 (by rw [List.length_map]; omega) ?_⟩))
   rw [eS,← List.map_set,← hk]
   refine ⟨_,.inl ⟨SqL.of ah,fun l2 n2=>?_⟩⟩
   have n20:H l2=none:=by
     have nl2:l2≠l:=fun z=>by rw [z,ah] at n2; cases n2
     rw [ap nl2] at n2
     exact s1.free n2
   exact k l2 _ n20 ((s1.put nl _).trans (Same.new _ n2)) ah
/-! #### is_step -/
def lK (T:Txt K mg):Sp:=fun vs H Q _=>∃ (p q t:Addr) (m:Int) (ps:List Addr) (rs:List Road) (s:Stp),vs=[.ref p,.ref q]∧WebAt T.Web H p m t ps rs∧H q=some (.tup (vSt s))∧∀ H',Same H H'→Q (.bl (fq m rs s)) H'
abbrev cm:Stmt:=top 30
theorem qW:FnScope ["web","step"] ["web","step"] (aa cm):=FnScope.of (by kernel_rfl)
theorem hJ:NmL (aa cm) "web":=.of (by kernel_rfl)
theorem dy:NmL (aa cm) "step":=.of (by kernel_rfl)
theorem n_is_step__is_place:NmG (aa cm) "is_place":=.of (by kernel_rfl)
theorem n_is_step__neighbours:NmG (aa cm) "neighbours":=.of (by kernel_rfl)

theorem q8 (T:Txt K mg) (hq:aL (CXe P w)) {f:Addr} {fd:FuncData} (D:Df K mg "is_step" cm ["web","step"] f fd) {f_is_place:Addr} {fd_is_place:FuncData} (D_is_place:Df K mg "is_place" b8 ["many","number"] f_is_place fd_is_place) (G_is_place:FnOk P w K mg base (CXe P w) 1 f_is_place fd_is_place ["many","number"] (fm T)) {f_neighbours:Addr} {fd_neighbours:FuncData} (D_neighbours:Df K mg "neighbours" bA ["web","a"] f_neighbours fd_neighbours) (G_neighbours:FnOk P w K mg base (CXe P w) 3 f_neighbours fd_neighbours ["web","a"] (fQ T)):FnOk P w K mg base (CXe P w) 4 f fd ["web","step"] (lK T):=by
 refine D.F.okC qW (fun vs H Q E h=>?_) (fun cdv A outer s H vs Q E hr h=>?_)
 · obtain ⟨p,q,t,m,ps,rs,s,rfl,_⟩:=h
   rfl
 · obtain ⟨p,q,t,m,ps,rs,s,rfl,W,hs,k⟩:=h
   obtain ⟨dx,ob⟩:=W.ob
   refine ⟨_,(ao (aB (ju (aq G_is_place (hr.mono (by decide)) n_is_step__is_place.g D_is_place.m D_is_place.F.kp D_is_place.b .nil (aS hq) (ag (fG  (pvl 0 hJ) rfl) (ag (aP bF (pvl 1 dy) ak (fun _ _=>rfl)) aj)) (hdb:=n_is_step__is_place.d)) (ju (d9 sU (aP bF (pvl 1 dy) ak (fun _ _=>rfl)) (aq G_neighbours (hr.mono (by decide)) n_is_step__neighbours.g D_neighbours.m D_neighbours.F.kp D_neighbours.b .nil (aS hq) (ag (pvl 0 hJ) (ag (aP bF (pvl 1 dy) ak (fun _ _=>rfl)) aj)) (hdb:=n_is_step__neighbours.d)) (by with_unfolding_all rfl)) (lF (d9 jL (aP bF (pvl 1 dy) ak (fun _ _=>rfl)) ak (aJ _))))))),?_⟩
   rw [show L2.start ["web","step"] [V.ref p,V.ref q]=[some (V.ref p),some (V.ref q)] from rfl]
   walk_at "rd"
   refine ⟨T.Web,dx,_,ob,T.cl_Web,T.n_many,_,eJ m t,ixT hs rfl ⟨m,s.1,rfl,?_⟩⟩
   refine ⟨_,rfl,?_⟩
   have kk:∀ H',Same H H'→Q (.bl (decide (0≤s.1) && decide (s.1 < m) && decide (s.2.1∈dh m rs s.1) && decide (1≤s.2.2))) H':=k
   by_cases c:(decide (0≤s.1) && decide (s.1 < m))=true
   · rw [if_pos c]
     rw [c,Bool.true_and] at kk
     have ar:0≤s.1∧s.1 < m:=by
       rw [Bool.and_eq_true] at c
       exact ⟨of_decide_eq_true c.1,of_decide_eq_true c.2⟩
     refine ixT hs rfl (ixT hs rfl ?_)
     refine ex6 p t m ps rs s.1 ?_
     refine an4 rfl W (fun l H1 _ _ nl s1 el=>?_) (fun z=>absurd ar z)
     refine inL el ⟨_,rfl,?_⟩
     by_cases d:s.2.1∈dh m rs s.1
     · rw [decide_eq_true d,Bool.true_and] at kk
       rw [if_pos (by rw [decide_eq_true d]; rfl)]
       exact ixT (s1 _ _ hs) rfl ⟨_,rfl,kk H1 s1⟩
     · rw [decide_eq_false d,Bool.false_and] at kk
       rw [if_neg (by rw [decide_eq_false d]; decide)]
       exact kk H1 s1
   · rw [if_neg c]
     rw [show (decide (0≤s.1) && decide (s.1 < m))=false by simpa using c,Bool.false_and,Bool.false_and] at kk
     exact kk H (Same.refl _)
/-! #### can_be_done -/
def gW (T:Txt K mg):Sp:=fun vs H Q _=>∃ (p a q t:Addr) (m:Int) (ps:List Addr) (rs:List Road) (xs:List Int) (s:Stp),vs=[.ref p,.ref a,.ref q]∧WebAt T.Web H p m t ps rs∧SqT K H a (xs.map V.int)∧(xs.length:Int)=m∧H q=some (.tup (vSt s))∧∀ H',Same H H'→Q (.bl (fV m rs xs s)) H'
abbrev bp:Stmt:=top 29
theorem mq:FnScope ["web","laying","step"] ["web","laying","step"] (aa bp):=FnScope.of (by kernel_rfl)
theorem fC:NmL (aa bp) "web":=.of (by kernel_rfl)
theorem hZ:NmL (aa bp) "laying":=.of (by kernel_rfl)
theorem dq:NmL (aa bp) "step":=.of (by kernel_rfl)
theorem n_can_be_done__is_step:NmG (aa bp) "is_step":=.of (by kernel_rfl)
theorem n_can_be_done__taken:NmG (aa bp) "taken":=.of (by kernel_rfl)

theorem mL (T:Txt K mg) (hq:aL (CXe P w)) {f:Addr} {fd:FuncData} (D:Df K mg "can_be_done" bp ["web","laying","step"] f fd) {f_is_step:Addr} {fd_is_step:FuncData} (D_is_step:Df K mg "is_step" cm ["web","step"] f_is_step fd_is_step) (G_is_step:FnOk P w K mg base (CXe P w) 4 f_is_step fd_is_step ["web","step"] (lK T)) {f_taken:Addr} {fd_taken:FuncData} (D_taken:Df K mg "taken" cU ["web","step"] f_taken fd_taken) (G_taken:FnOk P w K mg base (CXe P w) 4 f_taken fd_taken ["web","step"] (kc T)):FnOk P w K mg base (CXe P w) 5 f fd ["web","laying","step"] (gW T):=by
 refine D.F.okC mq (fun vs H Q E h=>?_) (fun cdv A outer s H vs Q E hr h=>?_)
 · obtain ⟨p,a,q,t,m,ps,rs,xs,s,rfl,_⟩:=h
   rfl
 · obtain ⟨p,a,q,t,m,ps,rs,xs,s,rfl,W,ha,xl,hs,k⟩:=h
   refine ⟨_,(ao (aB (ju (aq G_is_step (hr.mono (by decide)) n_can_be_done__is_step.g D_is_step.m D_is_step.F.kp D_is_step.b .nil (aS hq) (ag (pvl 0 fC) (ag (pvl 2 dq) aj)) (hdb:=n_can_be_done__is_step.d)) (lF (d9 jL (aP bF (pvl 1 hZ) (aP bF (pvl 2 dq) ak (fun _ _=>rfl)) (fun _ _=>rfl)) (aq G_taken (hr.mono (by decide)) n_can_be_done__taken.g D_taken.m D_taken.F.kp D_taken.b .nil (aS hq) (ag (pvl 0 fC) (ag (pvl 2 dq) aj)) (hdb:=n_can_be_done__taken.d)) (aJ _)))))),?_⟩
   rw [show L2.start ["web","laying","step"] [V.ref p,V.ref a,V.ref q]=[some (V.ref p),some (V.ref a),some (V.ref q)] from rfl]
   walk_at "rd"
   refine ex7 p q t m ps rs s ?_
   refine an4 rfl W hs (fun H1 s1=>⟨_,rfl,?_⟩)
   by_cases c:fq m rs s=true
   · rw [if_pos c]
     have ar:=(ig c).1
     refine ixT (s1 _ _ hs) rfl (wE (Same.tup s1 ha) (atG ar.1 (by omega)) ?_)
     refine ex7 p q t m ps rs s ?_
     refine an5 rfl (W.same s1) (s1 _ _ hs) c ?_
     have:=k H1 s1
     unfold fV at this
     rw [c,Bool.true_and] at this
     exact ⟨_,rfl,_,rfl,this⟩
   · rw [if_neg c]
     have:=k H1 s1
     unfold fV at this
     rw [show fq m rs s=false by simpa using c,Bool.false_and] at this
     exact this
/-! #### layings -/
def lr (T:Txt K mg):Sp:=fun vs H Q E=>∃ (p a b t:Addr) (c d:Bool) (m:Int) (ps qs:List Addr) (rs:List Road) (xs:List Int) (ss:List Stp),vs=[.ref p,.ref a,.ref b]∧WebAt T.Web H p m t ps rs∧AtX c H a (xs.map V.int)∧xs.length≤1000∧AtX d H b (qs.map V.ref)∧StepsAt H qs ss∧ss.length≤1000 ∧
 (ax m xs=true→jw m rs xs ss→∀ l ts H',H l=none→Same H H'→H' l=some (.lst (ts.map V.ref))→t7 H' ts (gH rs xs ss)→Q (.ref l) H') ∧
 (ax m xs=true→∀ i dx H',FirstBad m rs xs ss i→Same H H'→H' dx=some (.xd [("at",.int (i:Int))])→E (.ref T.BadStep) (some dx) H')∧(ax m xs=false→∀ H',Same H H'→E (.ref T.BadLaying) none H')
abbrev bu:Stmt:=top 28
theorem sc_layings:FnScope ["web","laying","steps","passed","at","step"] ["web","laying","steps"] (aa bu):=FnScope.of (by kernel_rfl)
theorem eP:NmL (aa bu) "web":=.of (by kernel_rfl)
theorem jX:NmL (aa bu) "laying":=.of (by kernel_rfl)
theorem kO:NmL (aa bu) "steps":=.of (by kernel_rfl)
theorem n_layings__passed:NmL (aa bu) "passed":=.of (by kernel_rfl)
theorem n_layings__at:NmL (aa bu) "at":=.of (by kernel_rfl)
theorem n_layings__step:NmL (aa bu) "step":=.of (by kernel_rfl)
theorem n_layings__laying_of:NmG (aa bu) "laying_of":=.of (by kernel_rfl)
theorem n_layings__enumerate:NmG (aa bu) "enumerate":=.of (by kernel_rfl)
theorem n_layings__can_be_done:NmG (aa bu) "can_be_done":=.of (by kernel_rfl)
theorem n_layings__BadStep:NmG (aa bu) "BadStep":=.of (by kernel_rfl)
theorem n_layings__behind:NmG (aa bu) "behind":=.of (by kernel_rfl)

theorem sj (T:Txt K mg) (hq:aL (CXe P w)) {f:Addr} {fd:FuncData} (D:Df K mg "layings" bu ["web","laying","steps"] f fd) {f_BadStep___init__:Addr} {fd_BadStep___init__:FuncData} (F_BadStep___init__:Fun K "__init__" "BadStep.__init__" be f_BadStep___init__ fd_BadStep___init__) (b_BadStep:Binds K fd_BadStep___init__ ["self","at"] []) (M_BadStep:jD K T.BadStep f_BadStep___init__) (G_BadStep_init:FnOk P w K mg base (CXe P w) 1 f_BadStep___init__ fd_BadStep___init__ ["self","at"] (eM T)) {f_behind:Addr} {fd_behind:FuncData} (D_behind:Df K mg "behind" b9 ["web","laying","step"] f_behind fd_behind) (G_behind:FnOk P w K mg base (CXe P w) 5 f_behind fd_behind ["web","laying","step"] (nu T)) {f_can_be_done:Addr} {fd_can_be_done:FuncData} (D_can_be_done:Df K mg "can_be_done" bp ["web","laying","step"] f_can_be_done fd_can_be_done) (G_can_be_done:FnOk P w K mg base (CXe P w) 5 f_can_be_done fd_can_be_done ["web","laying","step"] (gW T)) {f_laying_of:Addr} {fd_laying_of:FuncData} (D_laying_of:Df K mg "laying_of" bD ["web","numbers"] f_laying_of fd_laying_of) (G_laying_of:FnOk P w K mg base (CXe P w) 2 f_laying_of fd_laying_of ["web","numbers"] (gf T)):FnOk P w K mg base (CXe P w) 6 f fd ["web","laying","steps"] (lr T):=by
 refine D.F.okX sc_layings (fun vs H Q E h=>?_) (fun cdv A outer s H vs Q E hr h=>?_)
 · obtain ⟨p,a,b,t,c,d,m,ps,qs,rs,xs,ss,rfl,_⟩:=h
   rfl
 · obtain ⟨p,a,b,t,c,d,m,ps,qs,rs,xs,ss,rfl,W,ha,x1,hb,hs,sl,k,kb,kl⟩:=h
   have g:=W.go
   have m24:=g.m24
   refine ⟨_,(am (ay (i:=3) sc_layings.nd rfl (Or.inl n_layings__passed.l) (bB (ag (aq G_laying_of (hr.mono (by decide)) n_layings__laying_of.g D_laying_of.m D_laying_of.F.kp D_laying_of.b .nil bh (ag (pvl 0 eP) (ag (pvl 1 jX) aj)) (hdb:=n_layings__laying_of.d)) aj))) (am (cD PassesOwn.leaving rfl (yS d n_layings__enumerate.g T.enumerate (pvl 2 kO)) (gk (n:=2) rfl (bX (aO (i:=4) sc_layings.nd rfl (Or.inl n_layings__at.l)) (bX (aO (i:=5) sc_layings.nd rfl (Or.inl n_layings__step.l)) fe))) (am (aX (fw (gh (aq G_can_be_done (hr.mono (by decide)) n_layings__can_be_done.g D_can_be_done.m D_can_be_done.F.kp D_can_be_done.b .nil bh (ag (pvl 0 eP) (ag (aP bO (pvl 3 n_layings__passed) (fY eE ak) (fun _ _=>rfl)) (ag (pvl 5 n_layings__step) aj))) (hdb:=n_layings__can_be_done.d)))) (ao (tT M_BadStep G_BadStep_init hq (hr.mono (by decide)) b_BadStep rfl rfl zi n_layings__BadStep.g T.m_BadStep (ag (pvl 4 n_layings__at) aj) (hdb:=n_layings__BadStep.d))) aF) (ao (bG (dP PySem.F.plainAttrs_list PySem.F.slot_list_append PySem.F.type_list_append cq (pvl 3 n_layings__passed) (ag (aq G_behind (hr.mono (by decide)) n_layings__behind.g D_behind.m D_behind.F.kp D_behind.b .nil bh (ag (pvl 0 eP) (ag (aP bO (pvl 3 n_layings__passed) (fY eE ak) (fun _ _=>rfl)) (ag (pvl 5 n_layings__step) aj))) (hdb:=n_layings__behind.d)) aj)))))) (ao (aB (pvl 3 n_layings__passed))))),?_⟩
   rw [show L2.start ["web","laying","steps","passed","at","step"] [V.ref p,V.ref a,V.ref b]=[some (V.ref p),some (V.ref a),some (V.ref b),none,none,none] from rfl]
   walk_at "rd"
   refine ex8 p a t c m ps rs xs ?_
   refine an6 rfl W ha.sq x1 (fun fi t0 H1 s1 e1 _=>?_) kl
   have xl:(xs.length:Int)=m:=by
     unfold ax at fi
     rw [Bool.and_eq_true] at fi
     exact of_decide_eq_true fi.1
   have e1':H1 t0=some (.tup (xs.map V.int)):=by
     rcases e1 with e | ⟨hc,rfl⟩
     · exact e
     · subst hc
       exact s1 _ _ ha
   refine ⟨aD (by simp),fun l nl=>?_⟩
   have s2:=Same.new (.lst [V.ref t0]) nl
   have nl0:=s1.free nl
   have s12:=s1.trans s2
   have e2:=s2 _ _ e1'
   have el:upd H1 l (.lst [V.ref t0]) l=some (.lst [V.ref t0]):=ah
   generalize upd H1 l (.lst [V.ref t0])=H2 at s2 s12 e2 el ⊢
   have ql:qs.length=ss.length:=Paired.length hs
   have hbX:∀ {H3:Hp},Same H H3→SqX K d H3 b (qs.map V.ref):=fun {H3} s3=>AtX.sq (K:=K) (show AtX d H3 b (qs.map V.ref) from s3 _ _ hb)
   refine ⟨⟨_,hbX s12⟩,?_⟩
   refine uX (K:=K) (c:=d) (xs:=qs.map V.ref) (fun i σ H3=>Same H H3∧i≤ss.length∧(∀ j s,j < i→ss[j]?=some s→fV m rs (da rs xs ss j) s=true)∧∃ (ts:List Addr) (v4 v5:Option V),H3 l=some (.lst (ts.map V.ref))∧t7 H3 ts ((gH rs xs ss).take (i + 1))∧σ=[some (V.ref p),some (V.ref a),some (V.ref b),some (V.ref l),v4,v5]) ⟨s12,Nat.zero_le _,fun j s h=>absurd h (Nat.not_lt_zero _),[t0],_,_,el,?_,rfl⟩ (fun i σ H3 z=>hbX z.1) ?_ ?_
   · have h0:=gu (rs:=rs) (xs:=xs) (ss:=ss) (i:=0) (Nat.zero_le _)
     rw [ub] at h0
     rw [List.take_succ,h0,List.take_zero]
     exact .cons e2 .nil
   · rintro i x σ H3 q N hN hx ⟨s3,il,bf,ts,v4,v5,e3,ta,rfl⟩ nq
     obtain ⟨qx,s,rfl,h1,h2,h3⟩:=(StepsAt.same s3 hs).get hx
     have il2:i < ss.length:=(List.getElem?_eq_some_iff.mp h2).1
     have s4:=Same.new (.tup [V.int (i:Int),V.ref qx]) nq
     have tl:ts.length=((gH rs xs ss).take (i + 1)).length:=Paired.length ta
     rw [List.length_take,iY] at tl
     have stl:=pL rs xs ss i
     obtain ⟨tq,htq⟩:∃ tq,ts[i]?=some tq:=⟨_,List.getElem?_eq_getElem (by omega)⟩
     obtain ⟨row,hr1,hr2⟩:=pf ta htq
     rw [List.getElem?_take_of_lt (by omega),gu il] at hr1
     cases hr1
     have elast:∃ t',ts=t' ++ [tq]:=by
       refine ⟨ts.take i,?_⟩
       have:=List.take_succ (l:=ts) (i:=i)
       rw [htq,List.take_of_length_le (by omega)] at this
       exact this
     obtain ⟨t',et'⟩:=elast
     have e3':H3 l=some (.lst (t'.map V.ref ++ [V.ref tq])):=by rw [e3,et',List.map_append]; rfl
     walk_at "rd"
     refine ⟨_,SqT.of ah,rfl,_,_,rfl,_,_,rfl,rfl,?_⟩
     refine ixL (s4 _ _ e3') (kH _ _) ?_
     refine ⟨p,tq,qx,t,m,ps,rs,da rs xs ss i,s,rfl,W.same (s3.trans s4),SqT.of (s4 _ _ hr2),by omega,s4 _ _ h3,fun H5 s5=>⟨_,rfl,?_⟩⟩
     have s35:=s4.trans s5
     cases cd:fV m rs (da rs xs ss i) s
     · rw [if_pos rfl]
       refine ⟨V.int (i:Int),rfl,aD (by simp),fun ea ne=>⟨ea,f_BadStep___init__,_,rfl,ah,M_BadStep,fun dx nd nde=>⟨rfl,some dx,?_,?_⟩⟩⟩
       · rw [ap (Ne.symm nde),ah]
       · exact kb fi i dx _ ⟨bf,s,h2,cd⟩ ((s3.trans s35).trans (yU ne nd nde)) (by rw [iW nde,ah])
     rw [if_neg (by decide)]
     have is:fq m rs s=true:=by
       unfold fV at cd
       rw [Bool.and_eq_true] at cd
       exact cd.1
     refine ⟨tyL (s35 _ _ e3'),ixL (s35 _ _ e3') (kH _ _) ?_⟩
     refine ⟨p,tq,qx,t,m,ps,rs,da rs xs ss i,s,rfl,W.same (s3.trans s35),SqT.of (s35 _ _ hr2),by omega,s35 _ _ h3,is,fun tn H6 nn s6 en=>?_⟩
     have s36:=s35.trans s6
     have ntl:tn≠l:=fun z=>by rw [z,s35 _ _ e3'] at nn; cases nn
     refine gc (s36 _ _ e3) (cr (by rw [List.length_map]; omega)) (hN _ _ ⟨(s3.trans s36).put nl0 _,il2,fun j s' hj hs'=>?_,ts ++ [tn],_,_,by rw [ah,List.map_append]; rfl,?_,rfl⟩)
     · by_cases z:j=i
       · subst z
         rw [h2] at hs'
         cases hs'
         exact cd
       · exact bf j s' (by omega) hs'
     rw [List.take_succ,gu (by omega),sE h2]
     exact jN (by rw [ap ntl]; exact en) (Paired.imp' (fun a b h=>by rw [ap (eu (s36 _ _ h) (s36 _ _ e3) (by intro z; cases z))]; exact s36 _ _ h) ta)
   · rintro σ H3 ⟨s3,il,bf,ts,v4,v5,e3,ta,rfl⟩
     rw [List.length_map,ql,List.take_of_length_le (by rw [iY]; exact Nat.le_refl _)] at ta
     walk_at "rd"
     refine k fi (fun j s hs=>bf j s ?_ hs) l ts H3 nl0 s3 e3 ta
     rw [List.length_map,ql]
     exact (List.getElem?_eq_some_iff.mp hs).1
/-! #### walked -/
def ng (T:Txt K mg):Sp:=fun vs H Q E=>∃ (p a b t:Addr) (c d:Bool) (m:Int) (ps qs:List Addr) (rs:List Road) (xs:List Int) (ss:List Stp),vs=[.ref p,.ref a,.ref b]∧WebAt T.Web H p m t ps rs∧AtX c H a (xs.map V.int)∧xs.length≤1000∧AtX d H b (qs.map V.ref)∧StepsAt H qs ss∧ss.length≤1000 ∧
 (ax m xs=true→jw m rs xs ss→∀ l H',Same H H'→H' l=some (.tup ((da rs xs ss ss.length).map V.int))→Q (.ref l) H') ∧
 (ax m xs=true→∀ i dx H',FirstBad m rs xs ss i→Same H H'→H' dx=some (.xd [("at",.int (i:Int))])→E (.ref T.BadStep) (some dx) H')∧(ax m xs=false→∀ H',Same H H'→E (.ref T.BadLaying) none H')
abbrev cH:Stmt:=top 27
theorem tG:FnScope ["web","laying","steps"] ["web","laying","steps"] (aa cH):=FnScope.of (by kernel_rfl)
theorem nQ:NmL (aa cH) "web":=.of (by kernel_rfl)
theorem kK:NmL (aa cH) "laying":=.of (by kernel_rfl)
theorem lQ:NmL (aa cH) "steps":=.of (by kernel_rfl)
theorem n_walked__layings:NmG (aa cH) "layings":=.of (by kernel_rfl)

theorem sK (T:Txt K mg) (hq:aL (CXe P w)) {f:Addr} {fd:FuncData} (D:Df K mg "walked" cH ["web","laying","steps"] f fd) {f_layings:Addr} {fd_layings:FuncData} (D_layings:Df K mg "layings" bu ["web","laying","steps"] f_layings fd_layings) (G_layings:FnOk P w K mg base (CXe P w) 6 f_layings fd_layings ["web","laying","steps"] (lr T)):FnOk P w K mg base (CXe P w) 7 f fd ["web","laying","steps"] (ng T):=by
 refine D.F.okX tG (fun vs H Q E h=>?_) (fun cdv A outer s H vs Q E hr h=>?_)
 · obtain ⟨p,a,b,t,c,d,m,ps,qs,rs,xs,ss,rfl,_⟩:=h
   rfl
 · obtain ⟨p,a,b,t,c,d,m,ps,qs,rs,xs,ss,rfl,W,ha,x1,hb,hs,sl,k,kb,kl⟩:=h
   refine ⟨_,(ao (aB (aP bO (aq G_layings (hr.mono (by decide)) n_walked__layings.g D_layings.m D_layings.F.kp D_layings.b .nil bh (ag (pvl 0 nQ) (ag (pvl 1 kK) (ag (pvl 2 lQ) aj))) (hdb:=n_walked__layings.d)) (fY eE ak) (fun _ _=>rfl)))),?_⟩
   rw [show L2.start ["web","laying","steps"] [V.ref p,V.ref a,V.ref b]=[some (V.ref p),some (V.ref a),some (V.ref b)] from rfl]
   walk_at "rd"
   refine Bf p a b t c d m ps qs rs xs ss ?_
   refine ⟨rfl,W,ha,x1,hb,hs,sl,fun fi ca l ts H1 nl s1 el ta=>?_,kb,kl⟩
   have tl:ts.length=(gH rs xs ss).length:=Paired.length ta
   rw [iY] at tl
   obtain ⟨tq,htq⟩:∃ tq,ts[ss.length]?=some tq:=⟨_,List.getElem?_eq_getElem (by omega)⟩
   obtain ⟨row,hr1,hr2⟩:=pf ta htq
   rw [gu (Nat.le_refl _)] at hr1
   cases hr1
   have elast:ts=ts.take ss.length ++ [tq]:=by
     have:=List.take_succ (l:=ts) (i:=ss.length)
     rw [htq,List.take_of_length_le (by omega)] at this
     exact this
   rw [elast,List.map_append] at el
   exact ixL el (kH _ _) (k fi ca tq H1 s1 hr2)
/-! #### lead_to -/
def lY (T:Txt K mg):Sp:=fun vs H Q _=>∃ (p a b s t:Addr) (c d e:Bool) (m:Int) (ps qs:List Addr) (rs:List Road) (xs ys:List Int) (ss:List Stp),vs=[.ref p,.ref a,.ref b,.ref s]∧WebAt T.Web H p m t ps rs∧AtX c H a (xs.map V.int)∧ax m xs=true∧AtX d H b (ys.map V.int)∧AtX e H s (qs.map V.ref)∧StepsAt H qs ss∧ss.length≤1000 ∧
 ∀ bv H',(bv=true↔jw m rs xs ss∧jH (da rs xs ss ss.length) ys=true)→Same H H'→Q (.bl bv) H'
abbrev bP:Stmt:=top 49
theorem sc_lead_to:FnScope ["web","laying","wish","steps","left"] ["web","laying","wish","steps"] (aa bP):=FnScope.of (by kernel_rfl)
theorem mH:NmL (aa bP) "web":=.of (by kernel_rfl)
theorem jU:NmL (aa bP) "laying":=.of (by kernel_rfl)
theorem lA:NmL (aa bP) "wish":=.of (by kernel_rfl)
theorem kz:NmL (aa bP) "steps":=.of (by kernel_rfl)
theorem n_lead_to__left:NmL (aa bP) "left":=.of (by kernel_rfl)
theorem n_lead_to__walked:NmG (aa bP) "walked":=.of (by kernel_rfl)
theorem n_lead_to__BadStep:NmG (aa bP) "BadStep":=.of (by kernel_rfl)
theorem n_lead_to__covers:NmG (aa bP) "covers":=.of (by kernel_rfl)

theorem si (T:Txt K mg) (hq:aL (CXe P w)) {f:Addr} {fd:FuncData} (D:Df K mg "lead_to" bP ["web","laying","wish","steps"] f fd) {f_covers:Addr} {fd_covers:FuncData} (D_covers:Df K mg "covers" cG ["laying","numbers"] f_covers fd_covers) (G_covers:FnOk P w K mg base (CXe P w) 1 f_covers fd_covers ["laying","numbers"] (nh T)) {f_walked:Addr} {fd_walked:FuncData} (D_walked:Df K mg "walked" cH ["web","laying","steps"] f_walked fd_walked) (G_walked:FnOk P w K mg base (CXe P w) 7 f_walked fd_walked ["web","laying","steps"] (ng T)):FnOk P w K mg base (CXe P w) 8 f fd ["web","laying","wish","steps"] (lY T):=by
 refine D.F.okC sc_lead_to (fun vs H Q E h=>?_) (fun cdv A outer s H vs Q E hr h=>?_)
 · obtain ⟨p,a,b,s,t,c,d,e,m,ps,qs,rs,xs,ys,ss,rfl,_⟩:=h
   rfl
 · obtain ⟨p,a,b,s,t,c,d,e,m,ps,qs,rs,xs,ys,ss,rfl,W,ha,fx,hb,hs,st,sl,k⟩:=h
   have m24:=W.go.m24
   have xl:=cW fx
   refine ⟨_,(am (sT rfl rfl rfl (pK (yK (i:=4) sc_lead_to.nd rfl (Or.inl n_lead_to__left.l) (oO G_walked (hr.mono (by decide)) n_lead_to__walked.g D_walked.m D_walked.F.kp D_walked.b .nil (ag (pvl 0 mH) (ag (pvl 1 jU) (ag (pvl 3 kz) aj))) (hdb:=n_lead_to__walked.d)))) (A0 T.x_BadStep.x n_lead_to__BadStep.g T.m_BadStep (fun _=>(ao (aB cg))) tP (hdb:=n_lead_to__BadStep.d))) (ao (aB (aq G_covers (hr.mono (by decide)) n_lead_to__covers.g D_covers.m D_covers.F.kp D_covers.b .nil (aS hq) (ag (pvl 4 n_lead_to__left) (ag (pvl 2 lA) aj)) (hdb:=n_lead_to__covers.d))))),?_⟩
   rw [show L2.start ["web","laying","wish","steps","left"] [V.ref p,V.ref a,V.ref b,V.ref s]=[some (V.ref p),some (V.ref a),some (V.ref b),some (V.ref s),none] from rfl]
   walk_at "rd"
   refine ⟨p,a,s,t,c,e,m,ps,qs,rs,xs,ss,rfl,W,ha,by omega,hs,st,sl,fun _ ca l H1 s1 e1=>?_,fun _ i dx H1 fb s1 e1=>?_,(fun z=>by rw [fx] at z; cases z)⟩
   · refine ⟨l,b,false,d,_,ys,rfl,(show AtX false H1 l _ from e1).sq,(show AtX d H1 b (ys.map V.int) from s1 _ _ hb).sq,by rw [pL]; omega,fun H2 s2=>k _ H2 ?_ (s1.trans s2)⟩
     exact ⟨fun z=>⟨ca,z⟩,fun z=>z.2⟩
   · refine ⟨T.BadStep,rfl,true,by rw [T.x_BadStep.mr]; simp,?_⟩
     rw [if_pos rfl]
     exact k false H1 ⟨(fun z=>by cases z),fun z=>(fb.not z.1).elim⟩ s1
/-! #### judged -/
theorem nF:∀ xs ys:List Int,PyData.eqvAll (xs.map PyData.int) (ys.map PyData.int)=true↔xs=ys
 | [],[]=>by simp [PyData.eqvAll]
 | [],y :: ys=>by simp [PyData.eqvAll]
 | x :: xs,[]=>by simp [PyData.eqvAll]
 | x :: xs,y :: ys=>by
   rw [List.map_cons,List.map_cons]
   simp only [PyData.eqvAll,PyData.eqv,Bool.and_eq_true,beq_iff_eq,List.cons.injEq,nF xs ys]
theorem pj (xs ys:List Int):PyData.eqv (mM xs) (mM ys)=true↔xs=ys:=by
 unfold mM
 simp only [PyData.eqv]
 exact nF xs ys
def mQ (T:Txt K mg):Sp:=fun vs H Q E=>∃ (p a b an s t:Addr) (c d e:Bool) (m:Int) (ps:List Addr) (rs:List Road) (xs ys:List Int) (wd:Str),vs=[.ref p,.ref a,.ref b,.ref an]∧WebAt T.Web H p m t ps rs∧AtX c H a (xs.map V.int)∧xs.length≤1000∧AtX d H b (ys.map V.int)∧ys.length≤1000∧H an=some (.tup [.str wd,.ref s]) ∧
 ((wd="steps"∧∃ qs ss,AtX e H s (qs.map V.ref)∧StepsAt H qs ss∧ss.length≤1000∧(ax m xs=true→ax m ys=true→∀ bv H',(bv=true↔jw m rs xs ss∧jH (da rs xs ss ss.length) ys=true)→Same H H'→Q (.bl bv) H')) ∨
  (wd="lack"∧∃ zs:List Int,AtX e H s (zs.map V.int)∧(ax m xs=true→ax m ys=true→∃ PAR DEP,(∀ r,0≤r→r < m→Rooted m rs r (PAR r) (DEP r))∧∀ bv H',(bv=true↔¬ 0≤stg m rs 0 (PAR 0) (DEP 0) ys xs 0∧zs=(ik m rs PAR DEP xs ys m.toNat).map fun x=>-x)→Same H H'→Q (.bl bv) H'))) ∧
 (ax m xs=false→∀ H',Same H H'→E (.ref T.BadLaying) none H')∧(ax m xs=true→ax m ys=false→∀ H',Same H H'→E (.ref T.BadWish) none H')
abbrev bT:Stmt:=top 48
theorem sc_judged:FnScope ["web","laying","wish","answer","met"] ["web","laying","wish","answer"] (aa bT):=FnScope.of (by kernel_rfl)
theorem fJ:NmL (aa bT) "web":=.of (by kernel_rfl)
theorem d7:NmL (aa bT) "laying":=.of (by kernel_rfl)
theorem eW:NmL (aa bT) "wish":=.of (by kernel_rfl)
theorem d3:NmL (aa bT) "answer":=.of (by kernel_rfl)
theorem n_judged__met:NmL (aa bT) "met":=.of (by kernel_rfl)
theorem n_judged__is_met:NmG (aa bT) "is_met":=.of (by kernel_rfl)
theorem n_judged__lead_to:NmG (aa bT) "lead_to":=.of (by kernel_rfl)
theorem n_judged__tuple:NmG (aa bT) "tuple":=.of (by kernel_rfl)
theorem n_judged__lacks_of:NmG (aa bT) "lacks_of":=.of (by kernel_rfl)

theorem ui (T:Txt K mg) (hq:aL (CXe P w)) {f:Addr} {fd:FuncData} (D:Df K mg "judged" bT ["web","laying","wish","answer"] f fd) {f_is_met:Addr} {fd_is_met:FuncData} (D_is_met:Df K mg "is_met" ci ["web","laying","wish"] f_is_met fd_is_met) (G_is_met:FnOk P w K mg base (CXe P w) 10 f_is_met fd_is_met ["web","laying","wish"] (gG T)) {f_lacks_of:Addr} {fd_lacks_of:FuncData} (D_lacks_of:Df K mg "lacks_of" bI ["web","laying","wish"] f_lacks_of fd_lacks_of) (G_lacks_of:FnOk P w K mg base (CXe P w) 10 f_lacks_of fd_lacks_of ["web","laying","wish"] (fo T)) {f_lead_to:Addr} {fd_lead_to:FuncData} (D_lead_to:Df K mg "lead_to" bP ["web","laying","wish","steps"] f_lead_to fd_lead_to) (G_lead_to:FnOk P w K mg base (CXe P w) 8 f_lead_to fd_lead_to ["web","laying","wish","steps"] (lY T)):FnOk P w K mg base (CXe P w) 11 f fd ["web","laying","wish","answer"] (mQ T):=by
 refine D.F.okX sc_judged (fun vs H Q E h=>?_) (fun cdv A outer s H vs Q E hr h=>?_)
 · obtain ⟨p,a,b,an,s,t,c,d,e,m,ps,rs,xs,ys,wd,rfl,_⟩:=h
   rfl
 · obtain ⟨p,a,b,an,s,t,c,d,e,m,ps,rs,xs,ys,wd,rfl,W,ha,x1,hb,y1,han,hw,e1,e2⟩:=h
   have hv:=hr.units
   have g:=W.go
   have m1:=g.m1
   have m24:=g.m24
   refine ⟨_,(am (ay (i:=4) sc_judged.nd rfl (Or.inl n_judged__met.l) (aq G_is_met (hr.mono (by decide)) n_judged__is_met.g D_is_met.m D_is_met.F.kp D_is_met.b .nil bh (ag (pvl 0 fJ) (ag (pvl 1 d7) (ag (pvl 2 eW) aj))) (hdb:=n_judged__is_met.d))) (am (aX (aK bZ (aP bF (pvl 3 d3) ak (fun _ _=>rfl)) eA (aJ _)) (ao (aB (aq G_lead_to (hr.mono (by decide)) n_judged__lead_to.g D_lead_to.m D_lead_to.F.kp D_lead_to.b .nil bh (ag (pvl 0 fJ) (ag (pvl 1 d7) (ag (pvl 2 eW) (ag (aP bF (pvl 3 d3) ak (fun _ _=>rfl)) aj)))) (hdb:=n_judged__lead_to.d)))) aF) (ao (aB (ju (AI (pvl 4 n_judged__met)) (lF (d9 (zx hv) (cP cJ n_judged__tuple.g T.tuple d6 (ag (aP bF (pvl 3 d3) ak (fun _ _=>rfl)) aj) (hn:=n_judged__tuple.n) (hdb:=n_judged__tuple.d)) (aq G_lacks_of (hr.mono (by decide)) n_judged__lacks_of.g D_lacks_of.m D_lacks_of.F.kp D_lacks_of.b .nil bh (ag (pvl 0 fJ) (ag (pvl 1 d7) (ag (pvl 2 eW) aj))) (hdb:=n_judged__lacks_of.d)) (aJ _)))))))),?_⟩
   rw [show L2.start ["web","laying","wish","answer","met"] [V.ref p,V.ref a,V.ref b,V.ref an]=[some (V.ref p),some (V.ref a),some (V.ref b),some (V.ref an),none] from rfl]
   walk_at "rd"
   rcases hw with ⟨rfl,qs,ss,hs,st,sl,k⟩ | ⟨rfl,zs,hs,k⟩
   · refine ⟨p,a,b,t,c,d,m,ps,rs,xs,ys,rfl,W,ha.sq,x1,hb.sq,y1,fun fx fy=>?_,e1,e2⟩
     obtain ⟨par,dep,R⟩:=fA g (Int.le_refl 0) (by omega)
     refine ⟨par,dep,R,fun H1 s1=>?_⟩
     refine ixT (s1 _ _ han) rfl ⟨rfl,?_⟩
     rw [if_pos rfl]
     refine ixT (s1 _ _ han) rfl ?_
     exact ⟨p,a,b,s,t,c,d,e,m,ps,qs,rs,xs,ys,ss,rfl,W.same s1,s1 _ _ ha,fx,s1 _ _ hb,s1 _ _ hs,StepsAt.same s1 st,sl,fun bv H2 hb2 s2=>k fx fy bv H2 hb2 (s1.trans s2)⟩
   · refine ⟨p,a,b,t,c,d,m,ps,rs,xs,ys,rfl,W,ha.sq,x1,hb.sq,y1,fun fx fy=>?_,e1,e2⟩
     obtain ⟨PAR,DEP,RR,k⟩:=k fx fy
     refine ⟨PAR 0,DEP 0,RR 0 (Int.le_refl _) (by omega),fun H1 s1=>?_⟩
     refine ixT (s1 _ _ han) rfl ⟨rfl,?_⟩
     rw [if_neg (fun z=>absurd (V.str.inj z) (by decide +kernel))]
     refine ⟨_,rfl,?_⟩
     have s0:gat m rs 0 (PAR 0) (DEP 0) (fun v=>(df m xs ys).getD v.toNat 0) (hnd rs (PAR 0)) 0=stg m rs 0 (PAR 0) (DEP 0) ys xs 0:=rfl
     rw [s0]
     by_cases z:0≤stg m rs 0 (PAR 0) (DEP 0) ys xs 0
     · rw [if_neg (by rw [decide_eq_true z]; decide)]
       exact k false H1 ⟨(fun w=>by cases w),fun w=>absurd z w.1⟩ s1
     · rw [if_pos (decide_eq_false z)]
       have fin:∀ (l:Addr) (H2:Hp),Same H H2→H2 l=some (.tup (zs.map V.int))→fo T [V.ref p,V.ref a,V.ref b] H2 (fun y H2=>zI K (V.ref l) y H2 Q) E:=fun l H2 s2 e2=>by
         refine ⟨p,a,b,t,c,d,m,ps,rs,xs,ys,PAR,DEP,rfl,W.same s2,(show AtX c H2 a (xs.map V.int) from s2 _ _ ha).sq,fx,(show AtX d H2 b (ys.map V.int) from s2 _ _ hb).sq,fy,RR,fun l2 H3 n3 s3 e3=>⟨_,_,oP (s3 _ _ e2),oP e3,?_,?_⟩⟩
         · have:=t9 zs
           omega
         · exact k _ H3 ⟨fun w=>⟨z,(pj _ _).mp w⟩,fun w=>(pj _ _).mpr w.2⟩ (s2.trans s3)
       refine ixT (s1 _ _ han) rfl ⟨s,rfl,zs.map V.int,?_⟩
       cases e with
       | true=>exact .inl ⟨SqL.of (s1 _ _ hs),fun l nl=>fin l _ (s1.trans (Same.new _ nl)) ah⟩
       | false=>exact .inr ⟨SqT.of (s1 _ _ hs),fin s H1 s1 (s1 _ _ hs)⟩
/-! #### steps_in -/
def j4 (T:Txt K mg):Sp:=fun vs H Q _=>∃ (p a b t:Addr) (c d:Bool) (m:Int) (ps:List Addr) (rs:List Road) (xs ys:List Int) (r:Int) (par:Int→Int) (dep:Int→Nat),vs=[.ref p,.ref a,.ref b,.int r]∧WebAt T.Web H p m t ps rs∧SqX K c H a (xs.map V.int)∧ax m xs=true∧SqX K d H b (ys.map V.int)∧ax m ys=true∧(0≤r∧r < m)∧Rooted m rs r par dep ∧
 ∀ l qs tl H',dj m rs r par dep r=r :: tl→H l=none→Same H H'→H' l=some (.lst (qs.map V.ref))→StepsAt H' qs (fS rs par (stg m rs r par dep ys xs) tl.reverse)→Order m r par tl→Q (.ref l) H'
abbrev aZ:Stmt:=top 45
theorem sc_steps_in:FnScope ["web","laying","wish","r","over","steps","place","front","times"] ["web","laying","wish","r"] (aa aZ):=FnScope.of (by kernel_rfl)
theorem eD:NmL (aa aZ) "web":=.of (by kernel_rfl)
theorem jt:NmL (aa aZ) "laying":=.of (by kernel_rfl)
theorem kE:NmL (aa aZ) "wish":=.of (by kernel_rfl)
theorem iH:NmL (aa aZ) "r":=.of (by kernel_rfl)
theorem n_steps_in__over:NmL (aa aZ) "over":=.of (by kernel_rfl)
theorem n_steps_in__steps:NmL (aa aZ) "steps":=.of (by kernel_rfl)
theorem n_steps_in__place:NmL (aa aZ) "place":=.of (by kernel_rfl)
theorem n_steps_in__front:NmL (aa aZ) "front":=.of (by kernel_rfl)
theorem n_steps_in__times:NmL (aa aZ) "times":=.of (by kernel_rfl)
theorem n_steps_in__standings:NmG (aa aZ) "standings":=.of (by kernel_rfl)
theorem n_steps_in__inward:NmG (aa aZ) "inward":=.of (by kernel_rfl)
theorem n_steps_in__handed_on:NmG (aa aZ) "handed_on":=.of (by kernel_rfl)

theorem qa (T:Txt K mg) (hq:aL (CXe P w)) {f:Addr} {fd:FuncData} (D:Df K mg "steps_in" aZ ["web","laying","wish","r"] f fd) {f_handed_on:Addr} {fd_handed_on:FuncData} (D_handed_on:Df K mg "handed_on" bE ["web","over","place","front"] f_handed_on fd_handed_on) (G_handed_on:FnOk P w K mg base (CXe P w) 4 f_handed_on fd_handed_on ["web","over","place","front"] (gm T)) {f_inward:Addr} {fd_inward:FuncData} (D_inward:Df K mg "inward" bU ["web","r"] f_inward fd_inward) (G_inward:FnOk P w K mg base (CXe P w) 7 f_inward fd_inward ["web","r"] (gC T)) {f_standings:Addr} {fd_standings:FuncData} (D_standings:Df K mg "standings" aE ["web","laying","wish","r"] f_standings fd_standings) (G_standings:FnOk P w K mg base (CXe P w) 8 f_standings fd_standings ["web","laying","wish","r"] (dB T)):FnOk P w K mg base (CXe P w) 9 f fd ["web","laying","wish","r"] (j4 T):=by
 refine D.F.okC sc_steps_in (fun vs H Q E h=>?_) (fun cdv A outer s H vs Q E hr h=>?_)
 · obtain ⟨p,a,b,t,c,d,m,ps,rs,xs,ys,r,par,dep,rfl,_⟩:=h
   rfl
 · obtain ⟨p,a,b,t,c,d,m,ps,rs,xs,ys,r,par,dep,rfl,W,ha,fx,hb,fy,rr,R,k⟩:=h
   obtain ⟨r0,r1⟩:=rr
   have g:=W.go
   have m24:=g.m24
   have xl:=cW fx
   have yl:=cW fy
   refine ⟨_,(am (ay (i:=4) sc_steps_in.nd rfl (Or.inl n_steps_in__over.l) (aq G_standings (hr.mono (by decide)) n_steps_in__standings.g D_standings.m D_standings.F.kp D_standings.b .nil (aS hq) (ag (pvl 0 eD) (ag (pvl 1 jt) (ag (pvl 2 kE) (ag (pvl 3 iH) aj)))) (hdb:=n_steps_in__standings.d))) (am (ay (i:=5) sc_steps_in.nd rfl (Or.inl n_steps_in__steps.l) (bB aj)) (am (cD PassesOwn.never rfl (eU (aq G_inward (hr.mono (by decide)) n_steps_in__inward.g D_inward.m D_inward.F.kp D_inward.b .nil (aS hq) (ag (pvl 0 eD) (ag (pvl 3 iH) aj)) (hdb:=n_steps_in__inward.d))) (gk (n:=2) rfl (bX (aO (i:=6) sc_steps_in.nd rfl (Or.inl n_steps_in__place.l)) (bX (aO (i:=7) sc_steps_in.nd rfl (Or.inl n_steps_in__front.l)) fe))) (am (ay (i:=8) sc_steps_in.nd rfl (Or.inl n_steps_in__times.l) (aq G_handed_on (hr.mono (by decide)) n_steps_in__handed_on.g D_handed_on.m D_handed_on.F.kp D_handed_on.b .nil (aS hq) (ag (pvl 0 eD) (ag (aP bO (pvl 4 n_steps_in__over) (pvl 6 n_steps_in__place) (fun _ _=>rfl)) (ag (pvl 6 n_steps_in__place) (ag (pvl 7 n_steps_in__front) aj)))) (hdb:=n_steps_in__handed_on.d))) (ao (aX (aK yo (pvl 8 n_steps_in__times) ak (aJ _)) (ao (bG (dP PySem.F.plainAttrs_list PySem.F.slot_list_append PySem.F.type_list_append cq (pvl 5 n_steps_in__steps) (ag (cX (ag (pvl 6 n_steps_in__place) (ag (pvl 7 n_steps_in__front) (ag (pvl 8 n_steps_in__times) aj)))) aj)))) aF)))) (ao (aB (pvl 5 n_steps_in__steps)))))),?_⟩
   rw [show L2.start ["web","laying","wish","r","over","steps","place","front","times"] [V.ref p,V.ref a,V.ref b,V.int r]=[some (V.ref p),some (V.ref a),some (V.ref b),some (V.int r),none,none,none,none,none] from rfl]
   walk_at "rd"
   refine ⟨p,a,b,t,c,d,m,ps,rs,xs,ys,r,rfl,W,ha,by omega,hb,by omega,fun _ _ _ _=>⟨par,dep,R,fun lc H1 nc s1 ec=>⟨aD (by simp),fun ls ns=>?_⟩⟩,(fun z=>by rw [fx] at z; cases z),(fun _ z=>by rw [fy] at z; cases z),fun _ _ z=>absurd ⟨r0,r1⟩ z⟩
   have s2:=Same.new (.lst []) ns
   have ns0:=s1.free ns
   have s12:=s1.trans s2
   have es:upd H1 ls (.lst []) ls=some (.lst []):=ah
   have ec2:=s2 _ _ ec
   generalize upd H1 ls (.lst [])=H2 at s2 s12 es ec2 ⊢
   refine ex6 p t m ps rs r ?_
   refine an4 rfl (W.same s12) (fun _ _=>⟨par,dep,R,fun l2 qs tl H3 et n2 s3 e3 pa O=>?_⟩) (fun z=>absurd ⟨r0,r1⟩ z)
   refine ⟨l2,rfl,⟨_,SqL.of e3⟩,?_⟩
   have ql:qs.length=tl.reverse.length:=Paired.length pa
   have ll:=ic g R r0 r1
   rw [et,List.length_cons] at ll
   have n2s:l2≠ls:=fun z=>by rw [z,es] at n2; cases n2
   have ncs:lc≠ls:=fun z=>by rw [← z,ec] at ns; cases ns
   have s13:=s12.trans s3
   refine jm (K:=K) (xs:=qs.map V.ref) (fun i σ H4=>Same H H4∧H4 l2=some (.lst (qs.map V.ref))∧H4 lc=some (.lst ((fM m rs r par dep (fun v=>(df m xs ys).getD v.toNat 0) (hnd rs par)).map V.int))∧PairsAt H4 par qs tl.reverse∧∃ (us:List Addr) (v5 v6 v7:Option V),H4 ls=some (.lst (us.map V.ref))∧StepsAt H4 us (fS rs par (stg m rs r par dep ys xs) (tl.reverse.take i))∧σ=[some (V.ref p),some (V.ref a),some (V.ref b),some (V.int r),some (V.ref lc),some (V.ref ls),v5,v6,v7]) ⟨s13,e3,s3 _ _ ec2,pa,[],_,_,_,s3 _ _ es,.nil,rfl⟩ (fun i σ H4 _ z=>SqL.of z.2.1) ?_ ?_
   · rintro i x σ H4 N BB hBB hN hx ⟨s4,e4,c4,pa4,us,v5,v6,v7,u4,ba,rfl⟩
     refine hBB _ _ ?_
     obtain ⟨q,v,rfl,hq,hv,eq⟩:=pa4.get hx
     have vm:v∈tl:=List.mem_reverse.mp (List.mem_of_getElem? hv)
     obtain ⟨vr,vn⟩:=O.places v vm
     have u:=R.up v vr.1 vr.2 vn
     obtain ⟨kk,hk,k0,k1⟩:=md g R vr.1 vr.2 vn
     obtain ⟨kd,hd,d0,d1⟩:=me g R vr.1 vr.2 vn
     have et':tl.reverse.take (i + 1)=tl.reverse.take i ++ [v]:=by rw [List.take_succ,hv]; rfl
     have ul:us.length=(fS rs par (stg m rs r par dep ys xs) (tl.reverse.take i)).length:=Paired.length ba
     have ul2:us.length≤24:=by
       rw [ul]
       unfold fS
       rw [List.length_map]
       refine Nat.le_trans (List.length_filter_le _ _) ?_
       rw [List.length_take,List.length_reverse]
       omega
     walk_at "rd"
     refine ⟨_,SqT.of eq,rfl,_,_,rfl,_,_,rfl,rfl,?_⟩
     refine ixL c4 (atG vr.1 (by unfold fM; rw [List.length_map,bL]; omega)) ?_
     rw [ko vr.1 vr.2]
     refine ⟨p,t,m,ps,rs,_,v,par v,kk,kd,rfl,W.same s4,vr,u.1,hk,hd,⟨k0,k1⟩,⟨d0,d1⟩,?_⟩
     have eh:(if 0≤stg m rs r par dep ys xs v then stg m rs r par dep ys xs v / kk else stg m rs r par dep ys xs v * kd)=hnd rs par v (stg m rs r par dep ys xs v):=by
       unfold hnd
       rw [hk,hd]
       rfl
     rw [eh]
     refine ⟨_,rfl,?_⟩
     obtain ⟨i1,i2⟩:=zu g R (stg m rs r par dep ys xs) vr.1 vr.2 vn
     by_cases z:0 < hnd rs par v (stg m rs r par dep ys xs v)
     · rw [if_pos z,i1 z]
       rw [i1 z] at z
       refine ⟨tyL u4,aD (by simp),fun q5 n5=>?_⟩
       have s5:=Same.new (.tup (vSt (wJ rs par (stg m rs r par dep ys xs) v))) n5
       refine gc (s5 _ _ u4) (cr (by rw [List.length_map]; omega)) (hN _ _ ⟨(s4.trans s5).put ns0 _,?_,?_,?_,us ++ [q5],_,_,_,?_,?_,rfl⟩)
       · rw [ap n2s]; exact s5 _ _ e4
       · rw [ap ncs]; exact s5 _ _ c4
       · exact Paired.imp' (fun a b h=>by rw [ap (eu (s5 _ _ h) (s5 _ _ u4) (by intro z; cases z))]; exact s5 _ _ h) pa4
       · rw [ah,List.map_append]; rfl
       · have n5s:q5≠ls:=fun z=>by rw [z,u4] at n5; cases n5
         rw [et',uY (decide_eq_true z)]
         refine jN (by rw [ap n5s,ah]; rfl) ?_
         exact Paired.imp' (fun a b h=>by rw [ap (eu (s5 _ _ h) (s5 _ _ u4) (by intro z; cases z))]; exact s5 _ _ h) ba
     · rw [if_neg z]
       exact hN _ _ ⟨s4,e4,c4,pa4,us,_,_,_,u4,by rw [et',vc (by unfold rf; rw [decide_eq_true_eq]; exact i2 z)]; exact ba,rfl⟩
   · rintro BB σ H4 hBB ⟨s4,e4,c4,pa4,us,v5,v6,v7,u4,ba,rfl⟩
     refine hBB _ _ ?_
     rw [List.length_map,ql,List.take_length] at ba
     walk_at "rd"
     exact k ls us tl H4 et ns0 s4 u4 ba O
/-! #### steps_out -/
def jc (T:Txt K mg):Sp:=fun vs H Q _=>∃ (p a b t:Addr) (c d:Bool) (m:Int) (ps:List Addr) (rs:List Road) (xs ys:List Int) (r:Int) (par:Int→Int) (dep:Int→Nat),vs=[.ref p,.ref a,.ref b,.int r]∧WebAt T.Web H p m t ps rs∧SqX K c H a (xs.map V.int)∧ax m xs=true∧SqX K d H b (ys.map V.int)∧ax m ys=true∧(0≤r∧r < m)∧Rooted m rs r par dep ∧
 ∀ l qs tl H',dj m rs r par dep r=r :: tl→H l=none→Same H H'→H' l=some (.lst (qs.map V.ref))→StepsAt H' qs (fP par (stg m rs r par dep ys xs) tl)→Order m r par tl→Q (.ref l) H'
abbrev aV:Stmt:=top 46
theorem sc_steps_out:FnScope ["web","laying","wish","r","over","steps","place","front"] ["web","laying","wish","r"] (aa aV):=FnScope.of (by kernel_rfl)
theorem gl:NmL (aa aV) "web":=.of (by kernel_rfl)
theorem iO:NmL (aa aV) "laying":=.of (by kernel_rfl)
theorem jP:NmL (aa aV) "wish":=.of (by kernel_rfl)
theorem g9:NmL (aa aV) "r":=.of (by kernel_rfl)
theorem n_steps_out__over:NmL (aa aV) "over":=.of (by kernel_rfl)
theorem n_steps_out__steps:NmL (aa aV) "steps":=.of (by kernel_rfl)
theorem n_steps_out__place:NmL (aa aV) "place":=.of (by kernel_rfl)
theorem n_steps_out__front:NmL (aa aV) "front":=.of (by kernel_rfl)
theorem n_steps_out__standings:NmG (aa aV) "standings":=.of (by kernel_rfl)
theorem n_steps_out__reversed:NmG (aa aV) "reversed":=.of (by kernel_rfl)
theorem n_steps_out__inward:NmG (aa aV) "inward":=.of (by kernel_rfl)

theorem o9 (T:Txt K mg) (hq:aL (CXe P w)) {f:Addr} {fd:FuncData} (D:Df K mg "steps_out" aV ["web","laying","wish","r"] f fd) {f_inward:Addr} {fd_inward:FuncData} (D_inward:Df K mg "inward" bU ["web","r"] f_inward fd_inward) (G_inward:FnOk P w K mg base (CXe P w) 7 f_inward fd_inward ["web","r"] (gC T)) {f_standings:Addr} {fd_standings:FuncData} (D_standings:Df K mg "standings" aE ["web","laying","wish","r"] f_standings fd_standings) (G_standings:FnOk P w K mg base (CXe P w) 8 f_standings fd_standings ["web","laying","wish","r"] (dB T)):FnOk P w K mg base (CXe P w) 9 f fd ["web","laying","wish","r"] (jc T):=by
 refine D.F.okC sc_steps_out (fun vs H Q E h=>?_) (fun cdv A outer s H vs Q E hr h=>?_)
 · obtain ⟨p,a,b,t,c,d,m,ps,rs,xs,ys,r,par,dep,rfl,_⟩:=h
   rfl
 · obtain ⟨p,a,b,t,c,d,m,ps,rs,xs,ys,r,par,dep,rfl,W,ha,fx,hb,fy,rr,R,k⟩:=h
   obtain ⟨r0,r1⟩:=rr
   have g:=W.go
   have m24:=g.m24
   have xl:=cW fx
   have yl:=cW fy
   refine ⟨_,(am (ay (i:=4) sc_steps_out.nd rfl (Or.inl n_steps_out__over.l) (aq G_standings (hr.mono (by decide)) n_steps_out__standings.g D_standings.m D_standings.F.kp D_standings.b .nil (aS hq) (ag (pvl 0 gl) (ag (pvl 1 iO) (ag (pvl 2 jP) (ag (pvl 3 g9) aj)))) (hdb:=n_steps_out__standings.d))) (am (ay (i:=5) sc_steps_out.nd rfl (Or.inl n_steps_out__steps.l) (bB aj)) (am (cD PassesOwn.never rfl (oZ n_steps_out__reversed.g T.reversed (aq G_inward (hr.mono (by decide)) n_steps_out__inward.g D_inward.m D_inward.F.kp D_inward.b .nil (aS hq) (ag (pvl 0 gl) (ag (pvl 3 g9) aj)) (hdb:=n_steps_out__inward.d))) (gk (n:=2) rfl (bX (aO (i:=6) sc_steps_out.nd rfl (Or.inl n_steps_out__place.l)) (bX (aO (i:=7) sc_steps_out.nd rfl (Or.inl n_steps_out__front.l)) fe))) (ao (aX (aK on (aP bO (pvl 4 n_steps_out__over) (pvl 6 n_steps_out__place) (fun _ _=>rfl)) ak (aJ _)) (ao (bG (dP PySem.F.plainAttrs_list PySem.F.slot_list_append PySem.F.type_list_append cq (pvl 5 n_steps_out__steps) (ag (cX (ag (pvl 7 n_steps_out__front) (ag (pvl 6 n_steps_out__place) (ag (fY eE (aP bO (pvl 4 n_steps_out__over) (pvl 6 n_steps_out__place) (fun _ _=>rfl))) aj)))) aj)))) aF))) (ao (aB (pvl 5 n_steps_out__steps)))))),?_⟩
   rw [show L2.start ["web","laying","wish","r","over","steps","place","front"] [V.ref p,V.ref a,V.ref b,V.int r]=[some (V.ref p),some (V.ref a),some (V.ref b),some (V.int r),none,none,none,none] from rfl]
   walk_at "rd"
   refine ⟨p,a,b,t,c,d,m,ps,rs,xs,ys,r,rfl,W,ha,by omega,hb,by omega,fun _ _ _ _=>⟨par,dep,R,fun lc H1 nc s1 ec=>⟨aD (by simp),fun ls ns=>?_⟩⟩,(fun z=>by rw [fx] at z; cases z),(fun _ z=>by rw [fy] at z; cases z),fun _ _ z=>absurd ⟨r0,r1⟩ z⟩
   have s2:=Same.new (.lst []) ns
   have ns0:=s1.free ns
   have s12:=s1.trans s2
   have es:upd H1 ls (.lst []) ls=some (.lst []):=ah
   have ec2:=s2 _ _ ec
   generalize upd H1 ls (.lst [])=H2 at s2 s12 es ec2 ⊢
   refine ex6 p t m ps rs r ?_
   refine an4 rfl (W.same s12) (fun _ _=>⟨par,dep,R,fun l2 qs tl H3 et n2 s3 e3 pa O=>?_⟩) (fun z=>absurd ⟨r0,r1⟩ z)
   have ql:qs.length=tl.reverse.length:=Paired.length pa
   rw [List.length_reverse] at ql
   have ll:=ic g R r0 r1
   rw [et,List.length_cons] at ll
   have n2s:l2≠ls:=fun z=>by rw [z,es] at n2; cases n2
   have ncs:lc≠ls:=fun z=>by rw [← z,ec] at ns; cases ns
   have s13:=s12.trans s3
   refine ⟨l2,rfl,_,SqL.of e3,?_⟩
   refine oW (K:=K) (xs:=qs.map V.ref) (fun i σ H4=>Same H H4∧H4 l2=some (.lst (qs.map V.ref))∧H4 lc=some (.lst ((fM m rs r par dep (fun v=>(df m xs ys).getD v.toNat 0) (hnd rs par)).map V.int))∧PairsAt H4 par qs tl.reverse∧∃ (us:List Addr) (v5 v6:Option V),H4 ls=some (.lst (us.map V.ref))∧StepsAt H4 us (fP par (stg m rs r par dep ys xs) (tl.take i))∧σ=[some (V.ref p),some (V.ref a),some (V.ref b),some (V.int r),some (V.ref lc),some (V.ref ls),v5,v6]) ⟨s13,e3,s3 _ _ ec2,pa,[],_,_,s3 _ _ es,.nil,rfl⟩ (fun i σ H4 _ z=>SqL.of z.2.1) ?_ ?_
   · rintro i x σ H4 N hN hx ⟨s4,e4,c4,pa4,us,v5,v6,u4,ba,rfl⟩
     have il:=(List.getElem?_eq_some_iff.mp hx).1
     rw [List.length_reverse,List.length_map] at il
     rw [List.getElem?_reverse (by rw [List.length_map]; exact il),List.length_map] at hx
     obtain ⟨q,v,rfl,hq',hv,eq⟩:=pa4.get hx
     rw [List.getElem?_reverse (by omega),show tl.length - 1 - (qs.length - 1 - i)=i by omega] at hv
     have vm:=List.mem_of_getElem? hv
     have vr:=O.rng v vm
     have et':tl.take (i + 1)=tl.take i ++ [v]:=by rw [List.take_succ,hv]; rfl
     have ul:us.length=(fP par (stg m rs r par dep ys xs) (tl.take i)).length:=Paired.length ba
     have ul2:us.length≤24:=by
       rw [ul]
       unfold fP
       rw [List.length_map]
       refine Nat.le_trans (List.length_filter_le _ _) ?_
       rw [List.length_take]
       omega
     have gv:atI ((fM m rs r par dep (fun v=>(df m xs ys).getD v.toNat 0) (hnd rs par)).map V.int) v=some (V.int (stg m rs r par dep ys xs v)):=by
       rw [atG vr.1 (by unfold fM; rw [List.length_map,bL]; omega),ko vr.1 vr.2]
     walk_at "rd"
     refine ⟨_,SqT.of eq,rfl,_,_,rfl,_,_,rfl,rfl,?_⟩
     refine ixL c4 gv ⟨_,rfl,?_⟩
     by_cases z:stg m rs r par dep ys xs v < 0
     · rw [if_pos z]
       refine ⟨tyL u4,ixL c4 gv ⟨_,rfl,aD (by simp),fun q5 n5=>?_⟩⟩
       have s5:=Same.new (.tup (vSt (uA par (stg m rs r par dep ys xs) v))) n5
       refine gc (s5 _ _ u4) (cr (by rw [List.length_map]; omega)) (hN _ _ ⟨(s4.trans s5).put ns0 _,?_,?_,?_,us ++ [q5],_,_,?_,?_,rfl⟩)
       · rw [ap n2s]; exact s5 _ _ e4
       · rw [ap ncs]; exact s5 _ _ c4
       · exact Paired.imp' (fun a b h=>by rw [ap (eu (s5 _ _ h) (s5 _ _ u4) (by intro z; cases z))]; exact s5 _ _ h) pa4
       · rw [ah,List.map_append]; rfl
       · have n5s:q5≠ls:=fun z=>by rw [z,u4] at n5; cases n5
         rw [et',va (decide_eq_true z)]
         refine jN (by rw [ap n5s,ah]; rfl) ?_
         exact Paired.imp' (fun a b h=>by rw [ap (eu (s5 _ _ h) (s5 _ _ u4) (by intro z; cases z))]; exact s5 _ _ h) ba
     · rw [if_neg z]
       exact hN _ _ ⟨s4,e4,c4,pa4,us,_,_,u4,by rw [et',wR (by unfold rq; rw [decide_eq_true_eq]; exact z)]; exact ba,rfl⟩
   · rintro σ H4 ⟨s4,e4,c4,pa4,us,v5,v6,u4,ba,rfl⟩
     rw [List.length_map,ql,List.take_length] at ba
     walk_at "rd"
     exact k ls us tl H4 et ns0 s4 u4 ba O
/-! #### meeting -/
def lg (T:Txt K mg):Sp:=fun vs H Q E=>∃ (p a b t:Addr) (c d:Bool) (m:Int) (ps:List Addr) (rs:List Road) (xs ys:List Int),vs=[.ref p,.ref a,.ref b]∧WebAt T.Web H p m t ps rs∧SqX K c H a (xs.map V.int)∧xs.length≤1000∧SqX K d H b (ys.map V.int)∧ys.length≤1000 ∧
 (ax m xs=true→ax m ys=true→∃ PAR DEP,(∀ r,0≤r→r < m→Rooted m rs r (PAR r) (DEP r)) ∧
   (0≤stg m rs 0 (PAR 0) (DEP 0) ys xs 0→∀ l lq qs tl H',dj m rs 0 (PAR 0) (DEP 0) 0=0 :: tl→Order m 0 (PAR 0) tl→H lq=none→H l=none→Same H H'→H' l=some (.tup [.str "steps",.ref lq])→H' lq=some (.lst (qs.map V.ref))→StepsAt H' qs (fS rs (PAR 0) (stg m rs 0 (PAR 0) (DEP 0) ys xs) tl.reverse ++ fP (PAR 0) (stg m rs 0 (PAR 0) (DEP 0) ys xs) tl)→Q (.ref l) H') ∧
   (¬ 0≤stg m rs 0 (PAR 0) (DEP 0) ys xs 0→∀ l lt H',H lt=none→H l=none→Same H H'→H' l=some (.tup [.str "lack",.ref lt])→H' lt=some (.tup (((ik m rs PAR DEP xs ys m.toNat).map fun x=>-x).map V.int))→Q (.ref l) H')) ∧
 (ax m xs=false→∀ H',Same H H'→E (.ref T.BadLaying) none H')∧(ax m xs=true→ax m ys=false→∀ H',Same H H'→E (.ref T.BadWish) none H')
abbrev bS:Stmt:=top 44
theorem rO:FnScope ["web","laying","wish"] ["web","laying","wish"] (aa bS):=FnScope.of (by kernel_rfl)
theorem dR:NmL (aa bS) "web":=.of (by kernel_rfl)
theorem c6:NmL (aa bS) "laying":=.of (by kernel_rfl)
theorem dw:NmL (aa bS) "wish":=.of (by kernel_rfl)
theorem n_meeting__is_met:NmG (aa bS) "is_met":=.of (by kernel_rfl)
theorem n_meeting__steps_in:NmG (aa bS) "steps_in":=.of (by kernel_rfl)
theorem n_meeting__steps_out:NmG (aa bS) "steps_out":=.of (by kernel_rfl)
theorem n_meeting__lacks_of:NmG (aa bS) "lacks_of":=.of (by kernel_rfl)

theorem qN (T:Txt K mg) (hq:aL (CXe P w)) {f:Addr} {fd:FuncData} (D:Df K mg "meeting" bS ["web","laying","wish"] f fd) {f_is_met:Addr} {fd_is_met:FuncData} (D_is_met:Df K mg "is_met" ci ["web","laying","wish"] f_is_met fd_is_met) (G_is_met:FnOk P w K mg base (CXe P w) 10 f_is_met fd_is_met ["web","laying","wish"] (gG T)) {f_lacks_of:Addr} {fd_lacks_of:FuncData} (D_lacks_of:Df K mg "lacks_of" bI ["web","laying","wish"] f_lacks_of fd_lacks_of) (G_lacks_of:FnOk P w K mg base (CXe P w) 10 f_lacks_of fd_lacks_of ["web","laying","wish"] (fo T)) {f_steps_in:Addr} {fd_steps_in:FuncData} (D_steps_in:Df K mg "steps_in" aZ ["web","laying","wish","r"] f_steps_in fd_steps_in) (G_steps_in:FnOk P w K mg base (CXe P w) 9 f_steps_in fd_steps_in ["web","laying","wish","r"] (j4 T)) {f_steps_out:Addr} {fd_steps_out:FuncData} (D_steps_out:Df K mg "steps_out" aV ["web","laying","wish","r"] f_steps_out fd_steps_out) (G_steps_out:FnOk P w K mg base (CXe P w) 9 f_steps_out fd_steps_out ["web","laying","wish","r"] (jc T)):FnOk P w K mg base (CXe P w) 11 f fd ["web","laying","wish"] (lg T):=by
 refine D.F.okX rO (fun vs H Q E h=>?_) (fun cdv A outer s H vs Q E hr h=>?_)
 · obtain ⟨p,a,b,t,c,d,m,ps,rs,xs,ys,rfl,_⟩:=h
   rfl
 · obtain ⟨p,a,b,t,c,d,m,ps,rs,xs,ys,rfl,W,ha,hz,hb,hy,k,e1,e2⟩:=h
   have m1:=W.go.m1
   have m24:=W.go.m24
   have g:=W.go
   refine ⟨_,(am (aX (gh (aq G_is_met (hr.mono (by decide)) n_meeting__is_met.g D_is_met.m D_is_met.F.kp D_is_met.b .nil bh (ag (pvl 0 dR) (ag (pvl 1 c6) (ag (pvl 2 dw) aj))) (hdb:=n_meeting__is_met.d))) (ao (aB (cX (ag eA (ag (au sB (aq G_steps_in (hr.mono (by decide)) n_meeting__steps_in.g D_steps_in.m D_steps_in.F.kp D_steps_in.b .nil bh (ag (pvl 0 dR) (ag (pvl 1 c6) (ag (pvl 2 dw) (ag ak aj)))) (hdb:=n_meeting__steps_in.d)) (aq G_steps_out (hr.mono (by decide)) n_meeting__steps_out.g D_steps_out.m D_steps_out.F.kp D_steps_out.b .nil bh (ag (pvl 0 dR) (ag (pvl 1 c6) (ag (pvl 2 dw) (ag ak aj)))) (hdb:=n_meeting__steps_out.d))) aj))))) aF) (ao (aB (cX (ag eA (ag (aq G_lacks_of (hr.mono (by decide)) n_meeting__lacks_of.g D_lacks_of.m D_lacks_of.F.kp D_lacks_of.b .nil bh (ag (pvl 0 dR) (ag (pvl 1 c6) (ag (pvl 2 dw) aj))) (hdb:=n_meeting__lacks_of.d)) aj)))))),?_⟩
   rw [show L2.start ["web","laying","wish"] [V.ref p,V.ref a,V.ref b]=[some (V.ref p),some (V.ref a),some (V.ref b)] from rfl]
   walk_at "rd"
   refine ⟨p,a,b,t,c,d,m,ps,rs,xs,ys,rfl,W,ha,hz,hb,hy,fun fx fy=>?_,e1,e2⟩
   obtain ⟨PAR,DEP,RR,k1,k2⟩:=k fx fy
   have R0:=RR 0 (Int.le_refl _) (by omega)
   refine ⟨PAR 0,DEP 0,R0,fun H1 s1=>⟨_,rfl,?_⟩⟩
   by_cases z:0≤stg m rs 0 (PAR 0) (DEP 0) ys xs 0
   · rw [if_pos (decide_eq_true z)]
     refine ⟨p,a,b,t,c,d,m,ps,rs,xs,ys,0,PAR 0,DEP 0,rfl,W.same s1,Same.sqX s1 ha,fx,Same.sqX s1 hb,fy,⟨Int.le_refl _,by omega⟩,R0,fun l1 q1 tl H2 et n1 s2 h2 st1 O=>?_⟩
     have s12:=s1.trans s2
     refine ⟨p,a,b,t,c,d,m,ps,rs,xs,ys,0,PAR 0,DEP 0,rfl,W.same s12,Same.sqX s12 ha,fx,Same.sqX s12 hb,fy,⟨Int.le_refl _,by omega⟩,R0,fun l2 q2 tl' H3 et' n2 s3 h3 st2 _=>?_⟩
     have etl:tl'=tl:=by rw [et] at et'; cases et'; rfl
     subst etl
     have ll:=ic g R0 (Int.le_refl _) (by omega)
     rw [et,List.length_cons] at ll
     have b1:q1.length≤24:=by
       rw [Paired.length st1]
       unfold fS
       rw [List.length_map]
       refine Nat.le_trans (List.length_filter_le _ _) ?_
       rw [List.length_reverse]
       omega
     have b2:q2.length≤24:=by
       rw [Paired.length st2]
       unfold fP
       rw [List.length_map]
       refine Nat.le_trans (List.length_filter_le _ _) ?_
       omega
     have s13:=s12.trans s3
     refine r9 (s3 _ _ h2) h3 (aD (by rw [List.length_map,List.length_map]; omega)) fun l3 n3=>⟨aD (by simp),fun l4 n4=>?_⟩
     have s4:=Same.new (.lst (q1.map V.ref ++ q2.map V.ref)) n3
     have s5:=Same.new (.tup [V.str (Str.ofString "steps"),V.ref l3]) n4
     have n30:=s13.free n3
     have n40:=(s13.trans s4).free n4
     refine k1 z l4 l3 (q1 ++ q2) tl' _ et O n30 n40 (s13.trans (s4.trans s5)) ah (by rw [s5 _ _ ah,List.map_append]) (StepsAt.same (s4.trans s5) ?_)
     exact pB st2 (StepsAt.same s3 st1)
   · rw [if_neg (by rw [decide_eq_true_eq]; exact z)]
     refine ⟨p,a,b,t,c,d,m,ps,rs,xs,ys,PAR,DEP,rfl,W.same s1,Same.sqX s1 ha,fx,Same.sqX s1 hb,fy,RR,fun l2 H2 n2 s2 h2=>⟨aD (by simp),fun l4 n4=>?_⟩⟩
     have s5:=Same.new (.tup [V.str (Str.ofString "lack"),V.ref l2]) n4
     exact k2 z l4 l2 _ (s1.free n2) ((s1.trans s2).free n4) (s1.trans (s2.trans s5)) ah (s5 _ _ h2)
/-! #### _law_asked -/
def i9 (T:Txt K mg):Sp:=fun vs H Q E=>∃ (p a b t:Addr) (c d:Bool) (m:Int) (ps:List Addr) (rs:List Road) (xs ys:List Int) (r so:Int),vs=[.int so,.ref p,.ref a,.ref b,.int r]∧WebAt T.Web H p m t ps rs∧AtX c H a (xs.map V.int)∧xs.length≤1000∧AtX d H b (ys.map V.int)∧ys.length≤1000 ∧
 (ax m xs=true→ax m ys=true→(so < 2→0≤so→0≤r∧r < m)→∀ x H',Same H H'→Q x H')∧0≤so ∧
 (ax m xs=false→∀ H',Same H H'→E (.ref T.BadLaying) none H')∧(ax m xs=true→ax m ys=false→∀ H',Same H H'→E (.ref T.BadWish) none H')∧(ax m xs=true→ax m ys=true→so < 2→¬ (0≤r∧r < m)→∀ H',Same H H'→E (.ref T.NoPlace) none H')
abbrev bc:Stmt:=top 59
theorem oH:FnScope ["sort","web","laying","wish","r"] ["sort","web","laying","wish","r"] (aa bc):=FnScope.of (by kernel_rfl)
theorem cK:NmL (aa bc) "sort":=.of (by kernel_rfl)
theorem cA:NmL (aa bc) "web":=.of (by kernel_rfl)
theorem b5:NmL (aa bc) "laying":=.of (by kernel_rfl)
theorem cj:NmL (aa bc) "wish":=.of (by kernel_rfl)
theorem gN:NmL (aa bc) "r":=.of (by kernel_rfl)
theorem n_law_asked__standings:NmG (aa bc) "standings":=.of (by kernel_rfl)
theorem n_law_asked__standing:NmG (aa bc) "standing":=.of (by kernel_rfl)
theorem n_law_asked__is_met:NmG (aa bc) "is_met":=.of (by kernel_rfl)
theorem n_law_asked__meeting:NmG (aa bc) "meeting":=.of (by kernel_rfl)
theorem n_law_asked__judged:NmG (aa bc) "judged":=.of (by kernel_rfl)

theorem pb (T:Txt K mg) (hq:aL (CXe P w)) {f:Addr} {fd:FuncData} (D:Df K mg "_law_asked" bc ["sort","web","laying","wish","r"] f fd) {f_is_met:Addr} {fd_is_met:FuncData} (D_is_met:Df K mg "is_met" ci ["web","laying","wish"] f_is_met fd_is_met) (G_is_met:FnOk P w K mg base (CXe P w) 10 f_is_met fd_is_met ["web","laying","wish"] (gG T)) {f_judged:Addr} {fd_judged:FuncData} (D_judged:Df K mg "judged" bT ["web","laying","wish","answer"] f_judged fd_judged) (G_judged:FnOk P w K mg base (CXe P w) 11 f_judged fd_judged ["web","laying","wish","answer"] (mQ T)) {f_meeting:Addr} {fd_meeting:FuncData} (D_meeting:Df K mg "meeting" bS ["web","laying","wish"] f_meeting fd_meeting) (G_meeting:FnOk P w K mg base (CXe P w) 11 f_meeting fd_meeting ["web","laying","wish"] (lg T)) {f_standing:Addr} {fd_standing:FuncData} (D_standing:Df K mg "standing" bJ ["web","laying","wish","r"] f_standing fd_standing) (G_standing:FnOk P w K mg base (CXe P w) 9 f_standing fd_standing ["web","laying","wish","r"] (fk T)) {f_standings:Addr} {fd_standings:FuncData} (D_standings:Df K mg "standings" aE ["web","laying","wish","r"] f_standings fd_standings) (G_standings:FnOk P w K mg base (CXe P w) 8 f_standings fd_standings ["web","laying","wish","r"] (dB T)):FnOk P w K mg base (CXe P w) 12 f fd ["sort","web","laying","wish","r"] (i9 T):=by
 refine D.F.okX oH (fun vs H Q E h=>?_) (fun cdv A outer s H vs Q E hr h=>?_)
 · obtain ⟨p,a,b,t,c,d,m,ps,rs,xs,ys,r,so,rfl,_⟩:=h
   rfl
 · obtain ⟨p,a,b,t,c,d,m,ps,rs,xs,ys,r,so,rfl,W,ha,x1,hb,y1,k,so0,e1,e2,e3⟩:=h
   have g:=W.go
   have m1:=g.m1
   refine ⟨_,(am (aX (aK bZ (pvl 0 cK) ak (aJ _)) (ao (aB (aq G_standings (hr.mono (by decide)) n_law_asked__standings.g D_standings.m D_standings.F.kp D_standings.b .nil bh (ag (pvl 1 cA) (ag (pvl 2 b5) (ag (pvl 3 cj) (ag (pvl 4 gN) aj)))) (hdb:=n_law_asked__standings.d)))) aF) (am (aX (aK bZ (pvl 0 cK) ak (aJ _)) (ao (aB (aq G_standing (hr.mono (by decide)) n_law_asked__standing.g D_standing.m D_standing.F.kp D_standing.b .nil bh (ag (pvl 1 cA) (ag (pvl 2 b5) (ag (pvl 3 cj) (ag (pvl 4 gN) aj)))) (hdb:=n_law_asked__standing.d)))) aF) (am (aX (aK bZ (pvl 0 cK) ak (aJ _)) (ao (aB (aq G_is_met (hr.mono (by decide)) n_law_asked__is_met.g D_is_met.m D_is_met.F.kp D_is_met.b .nil bh (ag (pvl 1 cA) (ag (pvl 2 b5) (ag (pvl 3 cj) aj))) (hdb:=n_law_asked__is_met.d)))) aF) (am (aX (aK bZ (pvl 0 cK) ak (aJ _)) (ao (aB (aq G_meeting (hr.mono (by decide)) n_law_asked__meeting.g D_meeting.m D_meeting.F.kp D_meeting.b .nil bh (ag (pvl 1 cA) (ag (pvl 2 b5) (ag (pvl 3 cj) aj))) (hdb:=n_law_asked__meeting.d)))) aF) (am (aX (aK bZ (pvl 0 cK) ak (aJ _)) (ao (aB (aq G_judged (hr.mono (by decide)) n_law_asked__judged.g D_judged.m D_judged.F.kp D_judged.b .nil bh (ag (pvl 1 cA) (ag (pvl 2 b5) (ag (pvl 3 cj) (ag (cX (ag eA (ag (bB (ag (cX (ag ak (ag ak (ag ak aj)))) aj)) aj))) aj)))) (hdb:=n_law_asked__judged.d)))) aF) (ao (aB (aq G_judged (hr.mono (by decide)) n_law_asked__judged.g D_judged.m D_judged.F.kp D_judged.b .nil bh (ag (pvl 1 cA) (ag (pvl 2 b5) (ag (pvl 3 cj) (ag (cX (ag eA (ag (cX aj) aj))) aj)))) (hdb:=n_law_asked__judged.d))))))))),?_⟩
   rw [show L2.start ["sort","web","laying","wish","r"] [V.int so,V.ref p,V.ref a,V.ref b,V.int r]=[some (V.int so),some (V.ref p),some (V.ref a),some (V.ref b),some (V.int r)] from rfl]
   walk_at "rd"
   by_cases z0:so=0
   · rw [if_pos z0]
     refine ⟨p,a,b,t,c,d,m,ps,rs,xs,ys,r,rfl,W,ha.sq,x1,hb.sq,y1,fun fx fy r0 r1=>?_,e1,e2,fun fx fy nr=>e3 fx fy (by omega) nr⟩
     obtain ⟨par,dep,R⟩:=fA g r0 r1
     exact ⟨par,dep,R,fun l H' _ s' _=>k fx fy (fun _ _=>⟨r0,r1⟩) _ H' s'⟩
   rw [if_neg z0]
   by_cases z1:so=1
   · rw [if_pos z1]
     refine ⟨p,a,b,t,c,d,m,ps,rs,xs,ys,r,rfl,W,ha.sq,x1,hb.sq,y1,fun fx fy r0 r1=>?_,e1,e2,fun fx fy nr=>e3 fx fy (by omega) nr⟩
     obtain ⟨par,dep,R⟩:=fA g r0 r1
     exact ⟨par,dep,R,fun H' s'=>k fx fy (fun _ _=>⟨r0,r1⟩) _ H' s'⟩
   rw [if_neg z1]
   have k':ax m xs=true→ax m ys=true→∀ x H',Same H H'→Q x H':=fun fx fy=>k fx fy (fun z _=>absurd z (by omega))
   obtain ⟨PAR,DEP,RR⟩:∃ (PAR:Int→Int→Int) (DEP:Int→Int→Nat),∀ r,0≤r→r < m→Rooted m rs r (PAR r) (DEP r) :=
     ⟨fun r=>if h:0≤r∧r < m then (fA g h.1 h.2).choose else fun _=>0,fun r=>if h:0≤r∧r < m then (fA g h.1 h.2).choose_spec.choose else fun _=>0,fun r r0 r1=>by
       dsimp only
       rw [dif_pos ⟨r0,r1⟩,dif_pos ⟨r0,r1⟩]
       exact (fA g r0 r1).choose_spec.choose_spec⟩
   by_cases z2:so=2
   · rw [if_pos z2]
     exact ⟨p,a,b,t,c,d,m,ps,rs,xs,ys,rfl,W,ha.sq,x1,hb.sq,y1,fun fx fy=>⟨PAR 0,DEP 0,RR 0 (Int.le_refl _) (by omega),fun H' s'=>k' fx fy _ H' s'⟩,e1,e2⟩
   rw [if_neg z2]
   by_cases z3:so=3
   · rw [if_pos z3]
     exact ⟨p,a,b,t,c,d,m,ps,rs,xs,ys,rfl,W,ha.sq,x1,hb.sq,y1,fun fx fy=>⟨PAR,DEP,RR,fun _ l lq qs tl H' _ _ _ _ s' _ _ _=>k' fx fy _ H' s',fun _ l lt H' _ _ s' _ _=>k' fx fy _ H' s'⟩,e1,e2⟩
   rw [if_neg z3]
   by_cases z4:so=4
   · rw [if_pos z4]
     refine ⟨aD (by simp),fun q1 n1=>⟨aD (by simp),fun q2 n2=>⟨aD (by simp),fun q3 n3=>?_⟩⟩⟩
     have t1:=Same.new (.tup [V.int 0,V.int 0,V.int 1]) n1
     have t2:=Same.new (.lst [V.ref q1]) n2
     have t3:=Same.new (.tup [V.str (Str.ofString "steps"),V.ref q2]) n3
     have t13:=t1.trans (t2.trans t3)
     refine ⟨p,a,b,q3,q2,t,c,d,true,m,ps,rs,xs,ys,_,rfl,W.same t13,t13 _ _ ha,x1,t13 _ _ hb,y1,ah,.inl ⟨rfl,[q1],[(0,0,1)],t3 _ _ ah,.cons (t3 _ _ (t2 _ _ ah)) .nil,by simp,fun fx fy bv H' _ s'=>k' fx fy _ H' (t13.trans s')⟩,fun fx H' s'=>e1 fx H' (t13.trans s'),fun fx fy H' s'=>e2 fx fy H' (t13.trans s')⟩
   · rw [if_neg z4]
     refine ⟨aD (by simp),fun q2 n2=>⟨aD (by simp),fun q3 n3=>?_⟩⟩
     have t2:=Same.new (.tup []) n2
     have t3:=Same.new (.tup [V.str (Str.ofString "lack"),V.ref q2]) n3
     have t13:=t2.trans t3
     exact ⟨p,a,b,q3,q2,t,c,d,false,m,ps,rs,xs,ys,_,rfl,W.same t13,t13 _ _ ha,x1,t13 _ _ hb,y1,ah,.inr ⟨rfl,[],t3 _ _ ah,fun fx fy=>⟨PAR,DEP,RR,fun bv H' _ s'=>k' fx fy _ H' (t13.trans s')⟩⟩,fun fx H' s'=>e1 fx H' (t13.trans s'),fun fx fy H' s'=>e2 fx fy H' (t13.trans s')⟩
/-! #### _law_kinds -/
theorem dg {K:PySem.W.Frag} {C C' Tl:Addr} (xe:XErr K Tl C) (x':XErr K Tl C') (ne:C'≠Tl) (n:C'≠C):rM K C (.ref C') false:=by
 refine ⟨x'.x,?_⟩
 rw [xe.mr,decide_eq_false ne,Bool.or_false,decide_eq_false n]
/-- the kinds that are told -/
def kdL (m:Int) (xs ys:List Int) (so r:Int):List Bool:=if ax m xs=false then [true,false,false,true,false] else if ax m ys=false then [false,true,false,true,false] else if so < 2∧¬ (0≤r∧r < m) then [false,false,true,true,false] else []
def iV (T:Txt K mg):Sp:=fun vs H Q _=>∃ (p a b t:Addr) (c d:Bool) (m:Int) (ps:List Addr) (rs:List Road) (xs ys:List Int) (r so:Int),vs=[.int so,.ref p,.ref a,.ref b,.int r]∧WebAt T.Web H p m t ps rs∧AtX c H a (xs.map V.int)∧xs.length≤1000∧AtX d H b (ys.map V.int)∧ys.length≤1000∧0≤so ∧
 ∀ l H',H l=none→Same H H'→H' l=some (.lst ((kdL m xs ys so r).map V.bl))→Q (.ref l) H'
abbrev aH:Stmt:=top 60
theorem sc_law_kinds:FnScope ["sort","web","laying","wish","r","kinds","e"] ["sort","web","laying","wish","r"] (aa aH):=FnScope.of (by kernel_rfl)
theorem jV:NmL (aa aH) "sort":=.of (by kernel_rfl)
theorem kt:NmL (aa aH) "web":=.of (by kernel_rfl)
theorem iQ:NmL (aa aH) "laying":=.of (by kernel_rfl)
theorem jY:NmL (aa aH) "wish":=.of (by kernel_rfl)
theorem mJ:NmL (aa aH) "r":=.of (by kernel_rfl)
theorem n_law_kinds__kinds:NmL (aa aH) "kinds":=.of (by kernel_rfl)
theorem n_law_kinds__e:NmL (aa aH) "e":=.of (by kernel_rfl)
theorem n_law_kinds__law_asked:NmG (aa aH) "_law_asked":=.of (by kernel_rfl)
theorem n_law_kinds__TollError:NmG (aa aH) "TollError":=.of (by kernel_rfl)
theorem n_law_kinds__isinstance:NmG (aa aH) "isinstance":=.of (by kernel_rfl)
theorem n_law_kinds__BadLaying:NmG (aa aH) "BadLaying":=.of (by kernel_rfl)
theorem n_law_kinds__BadWish:NmG (aa aH) "BadWish":=.of (by kernel_rfl)
theorem n_law_kinds__NoPlace:NmG (aa aH) "NoPlace":=.of (by kernel_rfl)
theorem n_law_kinds__ValueError:NmG (aa aH) "ValueError":=.of (by kernel_rfl)
theorem n_law_kinds__BadWeb:NmG (aa aH) "BadWeb":=.of (by kernel_rfl)
theorem n_law_kinds__NoRoad:NmG (aa aH) "NoRoad":=.of (by kernel_rfl)
theorem n_law_kinds__BadStep:NmG (aa aH) "BadStep":=.of (by kernel_rfl)

theorem pd (T:Txt K mg) (hq:aL (CXe P w)) {f:Addr} {fd:FuncData} (D:Df K mg "_law_kinds" aH ["sort","web","laying","wish","r"] f fd) {f_law_asked:Addr} {fd_law_asked:FuncData} (D_law_asked:Df K mg "_law_asked" bc ["sort","web","laying","wish","r"] f_law_asked fd_law_asked) (G_law_asked:FnOk P w K mg base (CXe P w) 12 f_law_asked fd_law_asked ["sort","web","laying","wish","r"] (i9 T)):FnOk P w K mg base (CXe P w) 13 f fd ["sort","web","laying","wish","r"] (iV T):=by
 refine D.F.okC sc_law_kinds (fun vs H Q E h=>?_) (fun cdv A outer s H vs Q E hr h=>?_)
 · obtain ⟨p,a,b,t,c,d,m,ps,rs,xs,ys,r,so,rfl,_⟩:=h
   rfl
 · obtain ⟨p,a,b,t,c,d,m,ps,rs,xs,ys,r,so,rfl,W,ha,x1,hb,y1,so0,k⟩:=h
   refine ⟨_,(am (ay (i:=5) sc_law_kinds.nd rfl (Or.inl n_law_kinds__kinds.l) (bB aj)) (am (sT rfl rfl rfl (pK (vq (oO G_law_asked (hr.mono (by decide)) n_law_kinds__law_asked.g D_law_asked.m D_law_asked.F.kp D_law_asked.b .nil (ag (pvl 0 jV) (ag (pvl 1 kt) (ag (pvl 2 iQ) (ag (pvl 3 jY) (ag (pvl 4 mJ) aj))))) (hdb:=n_law_kinds__law_asked.d)))) (A6 (i:=6) T.x_TollError.x n_law_kinds__TollError.g T.m_TollError sc_law_kinds.nd rfl n_law_kinds__e.l (fun _=>(am (ay (i:=5) sc_law_kinds.nd rfl (Or.inl n_law_kinds__kinds.l) (bB (ag (bQ (gE K rfl) n_law_kinds__isinstance.g T.isinstance di (ag (pvl 6 n_law_kinds__e) (ag (ff (v:=.ref T.BadLaying) n_law_kinds__BadLaying.g T.m_BadLaying rfl) aj)) (hn:=n_law_kinds__isinstance.n) (hdb:=n_law_kinds__isinstance.d)) (ag (bQ (gE K rfl) n_law_kinds__isinstance.g T.isinstance di (ag (pvl 6 n_law_kinds__e) (ag (ff (v:=.ref T.BadWish) n_law_kinds__BadWish.g T.m_BadWish rfl) aj)) (hn:=n_law_kinds__isinstance.n) (hdb:=n_law_kinds__isinstance.d)) (ag (bQ (gE K rfl) n_law_kinds__isinstance.g T.isinstance di (ag (pvl 6 n_law_kinds__e) (ag (ff (v:=.ref T.NoPlace) n_law_kinds__NoPlace.g T.m_NoPlace rfl) aj)) (hn:=n_law_kinds__isinstance.n) (hdb:=n_law_kinds__isinstance.d)) aj))))) (ao (ay (i:=5) sc_law_kinds.nd rfl (Or.inl n_law_kinds__kinds.l) (au sB (pvl 5 n_law_kinds__kinds) (bB (ag (bQ (gE K rfl) n_law_kinds__isinstance.g T.isinstance di (ag (pvl 6 n_law_kinds__e) (ag (yR (v:=.ty "ValueError") n_law_kinds__ValueError.g T.ValueError nN rfl (hn:=n_law_kinds__ValueError.n) (hd:=n_law_kinds__ValueError.d)) aj)) (hn:=n_law_kinds__isinstance.n) (hdb:=n_law_kinds__isinstance.d)) (ag (bQ (rz K rfl) n_law_kinds__isinstance.g T.isinstance di (ag (pvl 6 n_law_kinds__e) (ag (cX (ag (ff (v:=.ref T.BadWeb) n_law_kinds__BadWeb.g T.m_BadWeb rfl) (ag (ff (v:=.ref T.NoRoad) n_law_kinds__NoRoad.g T.m_NoRoad rfl) (ag (ff (v:=.ref T.BadStep) n_law_kinds__BadStep.g T.m_BadStep rfl) aj)))) aj)) (hn:=n_law_kinds__isinstance.n) (hdb:=n_law_kinds__isinstance.d)) aj)))))))) tP (hdb:=n_law_kinds__TollError.d))) (ao (aB (pvl 5 n_law_kinds__kinds))))),?_⟩
   rw [show L2.start ["sort","web","laying","wish","r","kinds","e"] [V.int so,V.ref p,V.ref a,V.ref b,V.int r]=[some (V.int so),some (V.ref p),some (V.ref a),some (V.ref b),some (V.int r),none,none] from rfl]
   have t_BadLaying:T.BadLaying≠T.TollError:=(b6 T.ndx 4 0 rfl rfl (by decide))
   have t_BadWish:T.BadWish≠T.TollError:=(b6 T.ndx 5 0 rfl rfl (by decide))
   have t_NoPlace:T.NoPlace≠T.TollError:=(b6 T.ndx 2 0 rfl rfl (by decide))
   have t_BadWeb:T.BadWeb≠T.TollError:=(b6 T.ndx 1 0 rfl rfl (by decide))
   have t_NoRoad:T.NoRoad≠T.TollError:=(b6 T.ndx 3 0 rfl rfl (by decide))
   have t_BadStep:T.BadStep≠T.TollError:=(b6 T.ndx 6 0 rfl rfl (by decide))
   walk_at "rd"
   refine ⟨aD (by simp),fun l0 n0=>?_⟩
   have s0:=Same.new (.lst []) n0
   refine ⟨p,a,b,t,c,d,m,ps,rs,xs,ys,r,so,rfl,W.same s0,s0 _ _ ha,x1,s0 _ _ hb,y1,fun fx fy pl x H' s'=>?_,so0,fun fx H' s'=>?_,fun fx fy H' s'=>?_,fun fx fy s2' nr H' s'=>?_⟩
   · have e:kdL m xs ys so r=[]:=by
       unfold kdL
       rw [if_neg (by rw [fx]; decide),if_neg (by rw [fy]; decide),if_neg (fun z=>z.2 (pl z.1 so0))]
     refine k l0 H' n0 (s0.trans s') ?_
     rw [e]
     exact s' _ _ ah
   · have xe:=T.x_BadLaying
     have d_BadLaying:decide (T.BadLaying=T.BadLaying)=true:=decide_eq_true rfl
     have d_BadWish:decide (T.BadWish=T.BadLaying)=false:=decide_eq_false (b6 T.ndx 5 4 rfl rfl (by decide))
     have d_NoPlace:decide (T.NoPlace=T.BadLaying)=false:=decide_eq_false (b6 T.ndx 2 4 rfl rfl (by decide))
     refine ⟨T.BadLaying,rfl,true,by rw [xe.mr]; simp,?_⟩
     rw [if_pos rfl]
     intro ea ne
     have he:upd H' ea (ExO ea (.ref T.BadLaying) none) ea=some (ExO ea (.ref T.BadLaying) none):=ah
     have s2:=s'.trans (Same.new (ExO ea (.ref T.BadLaying) none) ne)
     generalize upd H' ea (ExO ea (.ref T.BadLaying) none)=H2 at he s2 ⊢
     refine dN he trivial xe T.x_BadLaying t_BadLaying (dN he trivial xe T.x_BadWish t_BadWish (dN he trivial xe T.x_NoPlace t_NoPlace ⟨aD (by simp),fun p1 n1=>?_⟩))
     rw [d_BadLaying,d_BadWish,d_NoPlace]
     have t1:=Same.new (.lst [V.bl true,V.bl false,V.bl false]) n1
     have f1:upd H2 p1 (.lst [V.bl true,V.bl false,V.bl false]) p1=some (.lst [V.bl true,V.bl false,V.bl false]):=ah
     generalize upd H2 p1 (.lst [V.bl true,V.bl false,V.bl false])=H3 at t1 f1 ⊢
     refine ml (t1 _ _ he) trivial xe ⟨aD (by simp),fun p2 n2=>?_⟩
     have t2:=Same.new (.tup [V.ref T.BadWeb,V.ref T.NoRoad,V.ref T.BadStep]) n2
     refine ⟨ea,_,none,p2,_,[false,false,false],rfl,t2 _ _ (t1 _ _ he),trivial,xe.x,ah,.cons (dg xe T.x_BadWeb t_BadWeb (b6 T.ndx 1 4 rfl rfl (by decide))) (.cons (dg xe T.x_NoRoad t_NoRoad (b6 T.ndx 3 4 rfl rfl (by decide))) (.cons (dg xe T.x_BadStep t_BadStep (b6 T.ndx 6 4 rfl rfl (by decide))) .nil)),aD (by simp),fun p3 n3=>?_⟩
     have f1':=t2 _ _ f1
     have t12:=t1.trans t2
     generalize upd H3 p2 (.tup [V.ref T.BadWeb,V.ref T.NoRoad,V.ref T.BadStep])=H4 at t12 f1' n3 ⊢
     have t3:=Same.new (.lst [V.bl true,V.bl ([false,false,false].any id)]) n3
     refine r9 (t3 _ _ f1') ah (aD (by simp)) fun l nl=>?_
     have t4:=(s0.trans s2).trans (t12.trans t3)
     refine k l _ (t4.free nl) (t4.trans (Same.new _ nl)) ?_
     rw [ah,show kdL m xs ys so r=[true,false,false,true,false] by unfold kdL; rw [if_pos fx]]
     rfl
   · have xe:=T.x_BadWish
     have d_BadLaying:decide (T.BadLaying=T.BadWish)=false:=decide_eq_false (b6 T.ndx 4 5 rfl rfl (by decide))
     have d_BadWish:decide (T.BadWish=T.BadWish)=true:=decide_eq_true rfl
     have d_NoPlace:decide (T.NoPlace=T.BadWish)=false:=decide_eq_false (b6 T.ndx 2 5 rfl rfl (by decide))
     refine ⟨T.BadWish,rfl,true,by rw [xe.mr]; simp,?_⟩
     rw [if_pos rfl]
     intro ea ne
     have he:upd H' ea (ExO ea (.ref T.BadWish) none) ea=some (ExO ea (.ref T.BadWish) none):=ah
     have s2:=s'.trans (Same.new (ExO ea (.ref T.BadWish) none) ne)
     generalize upd H' ea (ExO ea (.ref T.BadWish) none)=H2 at he s2 ⊢
     refine dN he trivial xe T.x_BadLaying t_BadLaying (dN he trivial xe T.x_BadWish t_BadWish (dN he trivial xe T.x_NoPlace t_NoPlace ⟨aD (by simp),fun p1 n1=>?_⟩))
     rw [d_BadLaying,d_BadWish,d_NoPlace]
     have t1:=Same.new (.lst [V.bl false,V.bl true,V.bl false]) n1
     have f1:upd H2 p1 (.lst [V.bl false,V.bl true,V.bl false]) p1=some (.lst [V.bl false,V.bl true,V.bl false]):=ah
     generalize upd H2 p1 (.lst [V.bl false,V.bl true,V.bl false])=H3 at t1 f1 ⊢
     refine ml (t1 _ _ he) trivial xe ⟨aD (by simp),fun p2 n2=>?_⟩
     have t2:=Same.new (.tup [V.ref T.BadWeb,V.ref T.NoRoad,V.ref T.BadStep]) n2
     refine ⟨ea,_,none,p2,_,[false,false,false],rfl,t2 _ _ (t1 _ _ he),trivial,xe.x,ah,.cons (dg xe T.x_BadWeb t_BadWeb (b6 T.ndx 1 5 rfl rfl (by decide))) (.cons (dg xe T.x_NoRoad t_NoRoad (b6 T.ndx 3 5 rfl rfl (by decide))) (.cons (dg xe T.x_BadStep t_BadStep (b6 T.ndx 6 5 rfl rfl (by decide))) .nil)),aD (by simp),fun p3 n3=>?_⟩
     have f1':=t2 _ _ f1
     have t12:=t1.trans t2
     generalize upd H3 p2 (.tup [V.ref T.BadWeb,V.ref T.NoRoad,V.ref T.BadStep])=H4 at t12 f1' n3 ⊢
     have t3:=Same.new (.lst [V.bl true,V.bl ([false,false,false].any id)]) n3
     refine r9 (t3 _ _ f1') ah (aD (by simp)) fun l nl=>?_
     have t4:=(s0.trans s2).trans (t12.trans t3)
     refine k l _ (t4.free nl) (t4.trans (Same.new _ nl)) ?_
     rw [ah,show kdL m xs ys so r=[false,true,false,true,false] by unfold kdL; rw [if_neg (by rw [fx]; decide),if_pos fy]]
     rfl
   · have xe:=T.x_NoPlace
     have d_BadLaying:decide (T.BadLaying=T.NoPlace)=false:=decide_eq_false (b6 T.ndx 4 2 rfl rfl (by decide))
     have d_BadWish:decide (T.BadWish=T.NoPlace)=false:=decide_eq_false (b6 T.ndx 5 2 rfl rfl (by decide))
     have d_NoPlace:decide (T.NoPlace=T.NoPlace)=true:=decide_eq_true rfl
     refine ⟨T.NoPlace,rfl,true,by rw [xe.mr]; simp,?_⟩
     rw [if_pos rfl]
     intro ea ne
     have he:upd H' ea (ExO ea (.ref T.NoPlace) none) ea=some (ExO ea (.ref T.NoPlace) none):=ah
     have s2:=s'.trans (Same.new (ExO ea (.ref T.NoPlace) none) ne)
     generalize upd H' ea (ExO ea (.ref T.NoPlace) none)=H2 at he s2 ⊢
     refine dN he trivial xe T.x_BadLaying t_BadLaying (dN he trivial xe T.x_BadWish t_BadWish (dN he trivial xe T.x_NoPlace t_NoPlace ⟨aD (by simp),fun p1 n1=>?_⟩))
     rw [d_BadLaying,d_BadWish,d_NoPlace]
     have t1:=Same.new (.lst [V.bl false,V.bl false,V.bl true]) n1
     have f1:upd H2 p1 (.lst [V.bl false,V.bl false,V.bl true]) p1=some (.lst [V.bl false,V.bl false,V.bl true]):=ah
     generalize upd H2 p1 (.lst [V.bl false,V.bl false,V.bl true])=H3 at t1 f1 ⊢
     refine ml (t1 _ _ he) trivial xe ⟨aD (by simp),fun p2 n2=>?_⟩
     have t2:=Same.new (.tup [V.ref T.BadWeb,V.ref T.NoRoad,V.ref T.BadStep]) n2
     refine ⟨ea,_,none,p2,_,[false,false,false],rfl,t2 _ _ (t1 _ _ he),trivial,xe.x,ah,.cons (dg xe T.x_BadWeb t_BadWeb (b6 T.ndx 1 2 rfl rfl (by decide))) (.cons (dg xe T.x_NoRoad t_NoRoad (b6 T.ndx 3 2 rfl rfl (by decide))) (.cons (dg xe T.x_BadStep t_BadStep (b6 T.ndx 6 2 rfl rfl (by decide))) .nil)),aD (by simp),fun p3 n3=>?_⟩
     have f1':=t2 _ _ f1
     have t12:=t1.trans t2
     generalize upd H3 p2 (.tup [V.ref T.BadWeb,V.ref T.NoRoad,V.ref T.BadStep])=H4 at t12 f1' n3 ⊢
     have t3:=Same.new (.lst [V.bl true,V.bl ([false,false,false].any id)]) n3
     refine r9 (t3 _ _ f1') ah (aD (by simp)) fun l nl=>?_
     have t4:=(s0.trans s2).trans (t12.trans t3)
     refine k l _ (t4.free nl) (t4.trans (Same.new _ nl)) ?_
     rw [ah,show kdL m xs ys so r=[false,false,true,true,false] by unfold kdL; rw [if_neg (by rw [fx]; decide),if_neg (by rw [fy]; decide),if_pos ⟨s2',nr⟩]]
     rfl
/-! #### _law_laying -/
def iA (T:Txt K mg):Sp:=fun vs H Q _=>∃ (a:Addr) (ns:List Int) (m b:Int),vs=[.ref a,.int m,.int b]∧SqL K H a (ns.map V.int)∧ns.length≤63∧1≤m∧m≤24∧1≤b∧∀ (l:Addr) (xs:List Int) (H':Hp),H l=none→Same H H'→H' l=some (.lst (xs.map V.int))→(xs.length:Int)=m→(∀ x∈xs,0≤x)→Q (.ref l) H'
abbrev aW:Stmt:=top 56
theorem sc_law_laying:FnScope ["script","many","bound","laying","k","place"] ["script","many","bound"] (aa aW):=FnScope.of (by kernel_rfl)
theorem dc:NmL (aa aW) "script":=.of (by kernel_rfl)
theorem cZ:NmL (aa aW) "many":=.of (by kernel_rfl)
theorem iP:NmL (aa aW) "bound":=.of (by kernel_rfl)
theorem n_law_laying__laying:NmL (aa aW) "laying":=.of (by kernel_rfl)
theorem n_law_laying__k:NmL (aa aW) "k":=.of (by kernel_rfl)
theorem n_law_laying__place:NmL (aa aW) "place":=.of (by kernel_rfl)
theorem n_law_laying__range:NmG (aa aW) "range":=.of (by kernel_rfl)
theorem n_law_laying__len:NmG (aa aW) "len":=.of (by kernel_rfl)
theorem n_law_laying__law_drawn:NmG (aa aW) "_law_drawn":=.of (by kernel_rfl)

theorem nK (T:Txt K mg) (hq:aL (CXe P w)) {f:Addr} {fd:FuncData} (D:Df K mg "_law_laying" aW ["script","many","bound"] f fd) {f_law_drawn:Addr} {fd_law_drawn:FuncData} (D_law_drawn:Df K mg "_law_drawn" aU ["script","k"] f_law_drawn fd_law_drawn) (G_law_drawn:FnOk P w K mg base (CXe P w) 1 f_law_drawn fd_law_drawn ["script","k"] (cQ T)):FnOk P w K mg base (CXe P w) 2 f fd ["script","many","bound"] (iA T):=by
 refine D.F.okC sc_law_laying (fun vs H Q E h=>?_) (fun cdv A outer s H vs Q E hr h=>?_)
 · obtain ⟨a,ns,m,b,rfl,_⟩:=h
   rfl
 · obtain ⟨a,ns,m,b,rfl,ha,hn,m0,m1,b0,k⟩:=h
   refine ⟨_,(am (ay (i:=3) sc_law_laying.nd rfl (Or.inl n_law_laying__laying.l) (au ph (bB (ag ak aj)) (pvl 1 cZ))) (am (cD PassesOwn.never rfl (iX n_law_laying__range.g T.range (ag (pvl 1 cZ) (ag (bQ cC n_law_laying__len.g T.len eC (ag (pvl 0 dc) aj) (hn:=n_law_laying__len.n) (hdb:=n_law_laying__len.d)) aj))) (aO (i:=4) sc_law_laying.nd rfl (Or.inl n_law_laying__k.l)) (ao (aX (aK bZ (au aQ (pvl 4 n_law_laying__k) ak) ak (aJ _)) (am (ay (i:=5) sc_law_laying.nd rfl (Or.inl n_law_laying__place.l) (au aQ (aq G_law_drawn (hr.mono (by decide)) n_law_laying__law_drawn.g D_law_drawn.m D_law_drawn.F.kp D_law_drawn.b .nil (aS hq) (ag (pvl 0 dc) (ag (pvl 4 n_law_laying__k) aj)) (hdb:=n_law_laying__law_drawn.d)) (pvl 1 cZ))) (ao (gZ (au aQ (au dC (au eI (aP bO (pvl 3 n_law_laying__laying) (pvl 5 n_law_laying__place) (fun _ _=>rfl)) ak) (au bH (aq G_law_drawn (hr.mono (by decide)) n_law_laying__law_drawn.g D_law_drawn.m D_law_drawn.F.kp D_law_drawn.b .nil (aS hq) (ag (pvl 0 dc) (ag (pvl 4 n_law_laying__k) aj)) (hdb:=n_law_laying__law_drawn.d)) (pvl 1 cZ))) (pvl 2 iP)) (jd (pvl 3 n_law_laying__laying) (pvl 5 n_law_laying__place) dD)))) aF))) (ao (aB (pvl 3 n_law_laying__laying))))),?_⟩
   rw [show L2.start ["script","many","bound","laying","k","place"] [V.ref a,V.int m,V.int b]=[some (V.ref a),some (V.int m),some (V.int b),none,none,none] from rfl]
   walk_at "rd"
   refine ⟨aD (by simp),fun l0 n0=>?_⟩
   refine ⟨l0,m,_,rfl,rfl,ah,by omega,by omega,aD (by simp; omega),fun l n1=>?_⟩
   rw [yh]
   have s0:Same H (upd H l0 (.lst [.int 0])):=Same.new _ n0
   have s1:=s0.trans (Same.new (.lst (List.replicate m.toNat (V.int 0))) n1)
   have nl:=s0.free n1
   refine ⟨_,.inl (Same.seq s1 ha),m,_,⟨rfl,rfl⟩,⟨by omega,by omega,by omega,by rw [List.length_map]; omega⟩,?_⟩
   rw [List.length_map]
   have e1:upd (upd H l0 (.lst [.int 0])) l (.lst (List.replicate m.toNat (V.int 0))) l=some (.lst ((List.replicate m.toNat (0:Int)).map V.int)):=by rw [ah,List.map_replicate]
   generalize upd (upd H l0 (.lst [.int 0])) l (.lst (List.replicate m.toNat (V.int 0)))=H1 at s1 e1 ⊢
   refine fX (fun i σ H2=>Same H H2∧∃ (xs:List Int) (v4 v5:Option V),H2 l=some (.lst (xs.map V.int))∧(xs.length:Int)=m∧(∀ x∈xs,0≤x)∧σ=[some (.ref a),some (.int m),some (.int b),some (.ref l),v4,v5]) ⟨s1,_,_,_,e1,by rw [List.length_replicate]; omega,fun x hx=>by rw [(List.mem_replicate.mp hx).2]; decide,rfl⟩ ?_ ?_
   · rintro i σ H2 N hN hi ⟨s2,xs,v4,v5,e2,xl,x0,rfl⟩
     have i0:0≤m + (i:Int):=by omega
     have i1:m + (i:Int)≤1000:=by omega
     generalize m + (i:Int)=j at i0 i1 ⊢
     have sa:=Same.seq s2 ha
     walk_at "rd"
     refine ⟨by decide,?_⟩
     by_cases z:j % 2=0
     · rw [if_pos z]
       refine ⟨a,ns,j,rfl,sa,i0,i1,fun c c0=>⟨c,rfl,by omega,?_⟩⟩
       have h1:=Int.emod_nonneg c (show m≠0 by omega)
       have h2:=Int.emod_lt_of_pos c (show 0 < m by omega)
       generalize c % m=p at h1 h2 ⊢
       refine ixL e2 (atG h1 (by omega)) ⟨_,rfl,.inr ⟨by decide,by decide⟩,a,ns,j,rfl,sa,i0,i1,fun c' c0'=>⟨c',rfl,⟨by omega,by omega⟩,by omega,kq e2 h1 (by rw [List.length_map]; omega) (hN _ _ ⟨s2.put nl _,xs.set p.toNat _,_,_,by rw [ah,List.map_set],by rw [List.length_set]; exact xl,sW x0 (Int.emod_nonneg _ (by omega)),rfl⟩)⟩⟩
     · rw [if_neg z]
       exact hN _ _ ⟨s2,xs,_,_,e2,xl,x0,rfl⟩
   · rintro σ H2 ⟨s2,xs,v4,v5,e2,xl,x0,rfl⟩
     exact ⟨_,rfl,k l xs H2 nl s2 e2 xl x0⟩
/-! #### _law_spoilt -/
def iC (T:Txt K mg):Sp:=fun vs H Q _=>∃ (a:Addr) (xs:List Int) (m c:Int),vs=[.ref a,.int c]∧H a=some (.lst (xs.map V.int))∧(xs.length:Int)=m∧1≤m∧m≤24∧∀ l (zs:List Int) H',H l=none→Same H H'→H' l=some (.lst (zs.map V.int))→zs.length≤1000→((zs.length:Int)≠m∨∃ z∈zs,z < 0)→Q (.ref l) H'
theorem sN (xs:List Int) (i:Nat):(xs.map V.int).eraseIdx i=(xs.eraseIdx i).map V.int:=by
 rw [List.eraseIdx_eq_take_drop_succ,List.eraseIdx_eq_take_drop_succ,List.map_append,List.map_take,List.map_drop]
abbrev bz:Stmt:=top 58
theorem sc_law_spoilt:FnScope ["numbers","cell","at","made"] ["numbers","cell"] (aa bz):=FnScope.of (by kernel_rfl)
theorem d8:NmL (aa bz) "numbers":=.of (by kernel_rfl)
theorem bW:NmL (aa bz) "cell":=.of (by kernel_rfl)
theorem n_law_spoilt__at:NmL (aa bz) "at":=.of (by kernel_rfl)
theorem n_law_spoilt__made:NmL (aa bz) "made":=.of (by kernel_rfl)
theorem n_law_spoilt__len:NmG (aa bz) "len":=.of (by kernel_rfl)
theorem n_law_spoilt__list:NmG (aa bz) "list":=.of (by kernel_rfl)

theorem nS (T:Txt K mg) (hq:aL (CXe P w)) {f:Addr} {fd:FuncData} (D:Df K mg "_law_spoilt" bz ["numbers","cell"] f fd):FnOk P w K mg base (CXe P w) 1 f fd ["numbers","cell"] (iC T):=by
 refine D.F.okC sc_law_spoilt (fun vs H Q E h=>?_) (fun cdv A outer s H vs Q E hr h=>?_)
 · obtain ⟨a,xs,m,c,rfl,_⟩:=h
   rfl
 · obtain ⟨a,xs,m,c,rfl,ha,xl,m1,m24,k⟩:=h
   have p40:(0:Int) < 10 ^ Int.toNat 40:=Int.pow_pos (by decide)
   refine ⟨_,(am (ay (i:=2) sc_law_spoilt.nd rfl (Or.inl n_law_spoilt__at.l) (au aQ (au bH (pvl 1 bW) ak) (bQ cC n_law_spoilt__len.g T.len eC (ag (pvl 0 d8) aj) (hn:=n_law_spoilt__len.n) (hdb:=n_law_spoilt__len.d)))) (am (ay (i:=3) sc_law_spoilt.nd rfl (Or.inl n_law_spoilt__made.l) (cP gd n_law_spoilt__list.g T.list mB (ag (pvl 0 d8) aj) (hn:=n_law_spoilt__list.n) (hdb:=n_law_spoilt__list.d))) (am (aX (aK bZ (au aQ (pvl 1 bW) ak) ak (aJ _)) (ao (bG (dP PySem.F.plainAttrs_list PySem.F.slot_list_pop PySem.F.type_list_pop xy (pvl 3 n_law_spoilt__made) (ag (pvl 2 n_law_spoilt__at) aj)))) aF) (am (aX (aK bZ (au aQ (pvl 1 bW) ak) ak (aJ _)) (ao (bG (dP PySem.F.plainAttrs_list PySem.F.slot_list_insert PySem.F.type_list_insert mR (pvl 3 n_law_spoilt__made) (ag (pvl 2 n_law_spoilt__at) (ag ak aj))))) aF) (am (aX (aK bZ (au aQ (pvl 1 bW) ak) ak (aJ _)) (ao (ay (i:=3) sc_law_spoilt.nd rfl (Or.inl n_law_spoilt__made.l) (bB aj))) aF) (am (aX (aK bZ (au aQ (pvl 1 bW) ak) ak (aJ _)) (ao (gZ (fY eE ak) (jd (pvl 3 n_law_spoilt__made) (pvl 2 n_law_spoilt__at) dD))) aF) (am (aX (aK bZ (au aQ (pvl 1 bW) ak) ak (aJ _)) (ao (gZ (au gO (fY eE ak) (au aQ (au bH (pvl 1 bW) ak) (au dG ak ak))) (jd (pvl 3 n_law_spoilt__made) (pvl 2 n_law_spoilt__at) dD))) aF) (ao (aB (pvl 3 n_law_spoilt__made)))))))))),?_⟩
   rw [show L2.start ["numbers","cell","at","made"] [V.ref a,V.int c]=[some (V.ref a),some (V.int c),none,none] from rfl]
   refine bo fun N1 h1=>?_
   walk_at "rd"
   refine ⟨⟨by decide,by decide⟩,_,.inl (SqL.of ha),?_⟩
   rw [List.length_map]
   have j0:=Int.emod_nonneg (c / 5) (show (xs.length:Int)≠0 by omega)
   have j1:=Int.emod_lt_of_pos (c / 5) (show 0 < (xs.length:Int) by omega)
   generalize c / 5 % (xs.length:Int)=j at j0 j1 ⊢
   refine ⟨by omega,h1 _ _ (bo fun N2 h2=>?_)⟩
   walk_at "rd"
   refine ⟨_,.inl (SqL.of ha),fun l nl=>h2 _ _ ?_⟩
   have s1:=Same.new (.lst (xs.map V.int)) nl
   have el:upd H l (.lst (xs.map V.int)) l=some (.lst (xs.map V.int)):=ah
   generalize upd H l (.lst (xs.map V.int))=H1 at s1 el ⊢
   have mx:(xs.set j.toNat (-1)).length=xs.length:=List.length_set
   have jl:j.toNat < xs.length:=by omega
   rcases (show c % 5=0∨c % 5=1∨c % 5=2∨c % 5=3∨c % 5=4 by omega) with z | z | z | z | z
   · refine bo fun N10 M10=>?_
     walk_at "rd"
     refine ⟨by decide,?_⟩
     rw [if_pos z]
     refine ⟨tyL el,l,xs.map V.int,j,j.toNat,V.int (xs.getD j.toNat 0),rfl,rfl,el,by omega,by omega,seqIndex_of j0 (by rw [List.length_map]; exact j1),by rw [List.getElem?_map,List.getD,List.getElem?_eq_getElem jl]; rfl,M10 _ _ ?_⟩
     have e2:upd H1 l (.lst ((xs.map V.int).eraseIdx j.toNat)) l=some (.lst ((xs.eraseIdx j.toNat).map V.int)):=by rw [ah,sN]
     have s2:=s1.put nl (.lst ((xs.map V.int).eraseIdx j.toNat))
     have zl:(xs.eraseIdx j.toNat).length=xs.length - 1:=List.length_eraseIdx_of_lt jl
     have nf:(((xs.eraseIdx j.toNat).length:Int)≠m∨∃ z∈(xs.eraseIdx j.toNat),z < 0):=.inl (by omega)
     have zb:(xs.eraseIdx j.toNat).length≤1000:=by omega
     generalize xs.eraseIdx j.toNat=zs at e2 nf zb
     generalize upd H1 l (.lst ((xs.map V.int).eraseIdx j.toNat))=H2 at e2 s2 ⊢
     have nl2:=nl
     refine bo fun N11 M11=>?_
     walk_at "rd"
     refine ⟨by decide,?_⟩
     rw [if_neg (by omega)]
     refine M11 _ _ ?_
     refine bo fun N12 M12=>?_
     walk_at "rd"
     refine ⟨by decide,?_⟩
     rw [if_neg (by omega)]
     refine M12 _ _ ?_
     refine bo fun N13 M13=>?_
     walk_at "rd"
     refine ⟨by decide,?_⟩
     rw [if_neg (by omega)]
     refine M13 _ _ ?_
     refine bo fun N14 M14=>?_
     walk_at "rd"
     refine ⟨by decide,?_⟩
     rw [if_neg (by omega)]
     refine M14 _ _ ?_
     walk_at "rd"
     exact k _ zs H2 nl2 s2 e2 zb nf
   · refine bo fun N10 M10=>?_
     walk_at "rd"
     refine ⟨by decide,?_⟩
     rw [if_neg (by omega)]
     refine M10 _ _ ?_
     refine bo fun N11 M11=>?_
     walk_at "rd"
     refine ⟨by decide,?_⟩
     rw [if_pos z]
     refine ⟨tyL el,Af el j0 (by rw [List.length_map]; omega) (cr (by rw [List.length_map]; omega)) (M11 _ _ ?_)⟩
     have e2:upd H1 l (.lst ((xs.map V.int).take j.toNat ++ V.int 0 :: (xs.map V.int).drop j.toNat)) l=some (.lst ((xs.take j.toNat ++ 0 :: xs.drop j.toNat).map V.int)):=by rw [ah,List.map_append,List.map_cons,List.map_take,List.map_drop]
     have s2:=s1.put nl (.lst ((xs.map V.int).take j.toNat ++ V.int 0 :: (xs.map V.int).drop j.toNat))
     have zl:(xs.take j.toNat ++ 0 :: xs.drop j.toNat).length=xs.length + 1:=by rw [List.length_append,List.length_cons,List.length_take,List.length_drop]; omega
     have nf:(((xs.take j.toNat ++ 0 :: xs.drop j.toNat).length:Int)≠m∨∃ z∈(xs.take j.toNat ++ 0 :: xs.drop j.toNat),z < 0):=.inl (by omega)
     have zb:(xs.take j.toNat ++ 0 :: xs.drop j.toNat).length≤1000:=by omega
     generalize xs.take j.toNat ++ 0 :: xs.drop j.toNat=zs at e2 nf zb
     generalize upd H1 l (.lst ((xs.map V.int).take j.toNat ++ V.int 0 :: (xs.map V.int).drop j.toNat))=H2 at e2 s2 ⊢
     have nl2:=nl
     refine bo fun N12 M12=>?_
     walk_at "rd"
     refine ⟨by decide,?_⟩
     rw [if_neg (by omega)]
     refine M12 _ _ ?_
     refine bo fun N13 M13=>?_
     walk_at "rd"
     refine ⟨by decide,?_⟩
     rw [if_neg (by omega)]
     refine M13 _ _ ?_
     refine bo fun N14 M14=>?_
     walk_at "rd"
     refine ⟨by decide,?_⟩
     rw [if_neg (by omega)]
     refine M14 _ _ ?_
     walk_at "rd"
     exact k _ zs H2 nl2 s2 e2 zb nf
   · refine bo fun N10 M10=>?_
     walk_at "rd"
     refine ⟨by decide,?_⟩
     rw [if_neg (by omega)]
     refine M10 _ _ ?_
     refine bo fun N11 M11=>?_
     walk_at "rd"
     refine ⟨by decide,?_⟩
     rw [if_neg (by omega)]
     refine M11 _ _ ?_
     refine bo fun N12 M12=>?_
     walk_at "rd"
     refine ⟨by decide,?_⟩
     rw [if_pos z]
     refine ⟨aD (by simp),fun l2 n2=>M12 _ _ ?_⟩
     have e2:upd H1 l2 (.lst []) l2=some (.lst (([]:List Int).map V.int)):=ah
     have s2:=s1.trans (Same.new (.lst []) n2)
     have nf:((([]:List Int).length:Int)≠m∨∃ z∈([]:List Int),z < 0):=.inl (by simp; omega)
     have zb:([]:List Int).length≤1000:=by simp
     generalize ([]:List Int)=zs at e2 nf zb
     have nl2:=s1.free n2
     generalize upd H1 l2 (.lst [])=H2 at e2 s2 ⊢
     clear nl el
     refine bo fun N13 M13=>?_
     walk_at "rd"
     refine ⟨by decide,?_⟩
     rw [if_neg (by omega)]
     refine M13 _ _ ?_
     refine bo fun N14 M14=>?_
     walk_at "rd"
     refine ⟨by decide,?_⟩
     rw [if_neg (by omega)]
     refine M14 _ _ ?_
     walk_at "rd"
     exact k _ zs H2 nl2 s2 e2 zb nf
   · refine bo fun N10 M10=>?_
     walk_at "rd"
     refine ⟨by decide,?_⟩
     rw [if_neg (by omega)]
     refine M10 _ _ ?_
     refine bo fun N11 M11=>?_
     walk_at "rd"
     refine ⟨by decide,?_⟩
     rw [if_neg (by omega)]
     refine M11 _ _ ?_
     refine bo fun N12 M12=>?_
     walk_at "rd"
     refine ⟨by decide,?_⟩
     rw [if_neg (by omega)]
     refine M12 _ _ ?_
     refine bo fun N13 M13=>?_
     walk_at "rd"
     refine ⟨by decide,?_⟩
     rw [if_pos z]
     refine kq el j0 (by rw [List.length_map]; omega) (M13 _ _ ?_)
     have e2:upd H1 l (.lst ((xs.map V.int).set j.toNat (V.int (-1)))) l=some (.lst ((xs.set j.toNat (-1)).map V.int)):=by rw [ah,List.map_set]
     have s2:=s1.put nl (.lst ((xs.map V.int).set j.toNat (V.int (-1))))
     have nf:(((xs.set j.toNat (-1)).length:Int)≠m∨∃ z∈(xs.set j.toNat (-1)),z < 0):=.inr ⟨_,List.mem_set jl _,(by decide)⟩
     have zb:(xs.set j.toNat (-1)).length≤1000:=by rw [List.length_set]; omega
     generalize xs.set j.toNat (-1)=zs at e2 nf zb
     generalize upd H1 l (.lst ((xs.map V.int).set j.toNat (V.int (-1))))=H2 at e2 s2 ⊢
     have nl2:=nl
     refine bo fun N14 M14=>?_
     walk_at "rd"
     refine ⟨by decide,?_⟩
     rw [if_neg (by omega)]
     refine M14 _ _ ?_
     walk_at "rd"
     exact k _ zs H2 nl2 s2 e2 zb nf
   · refine bo fun N10 M10=>?_
     walk_at "rd"
     refine ⟨by decide,?_⟩
     rw [if_neg (by omega)]
     refine M10 _ _ ?_
     refine bo fun N11 M11=>?_
     walk_at "rd"
     refine ⟨by decide,?_⟩
     rw [if_neg (by omega)]
     refine M11 _ _ ?_
     refine bo fun N12 M12=>?_
     walk_at "rd"
     refine ⟨by decide,?_⟩
     rw [if_neg (by omega)]
     refine M12 _ _ ?_
     refine bo fun N13 M13=>?_
     walk_at "rd"
     refine ⟨by decide,?_⟩
     rw [if_neg (by omega)]
     refine M13 _ _ ?_
     refine bo fun N14 M14=>?_
     walk_at "rd"
     refine ⟨by decide,?_⟩
     rw [if_pos z]
     refine ⟨⟨by decide,by decide⟩,⟨by decide,by decide,by decide⟩,p40,?_⟩
     have w0:=Int.emod_nonneg (c / 120) (Int.ne_of_gt p40)
     have wn:-1 - c / 120 % 10 ^ Int.toNat 40 < 0:=by omega
     generalize -1 - c / 120 % 10 ^ Int.toNat 40=w at wn ⊢
     refine kq el j0 (by rw [List.length_map]; omega) (M14 _ _ ?_)
     have e2:upd H1 l (.lst ((xs.map V.int).set j.toNat (V.int w))) l=some (.lst ((xs.set j.toNat w).map V.int)):=by rw [ah,List.map_set]
     have s2:=s1.put nl (.lst ((xs.map V.int).set j.toNat (V.int w)))
     have nf:(((xs.set j.toNat w).length:Int)≠m∨∃ z∈(xs.set j.toNat w),z < 0):=.inr ⟨_,List.mem_set jl _,wn⟩
     have zb:(xs.set j.toNat w).length≤1000:=by rw [List.length_set]; omega
     generalize xs.set j.toNat w=zs at e2 nf zb
     generalize upd H1 l (.lst ((xs.map V.int).set j.toNat (V.int w)))=H2 at e2 s2 ⊢
     have nl2:=nl
     walk_at "rd"
     exact k _ zs H2 nl2 s2 e2 zb nf
/-! #### _law_toll -/
def j9 (T:Txt K mg):Sp:=fun vs H Q _=>∃ (c:Int),vs=[.int c]∧∀ t,2≤t→t≤1000000→Q (.int t) H
abbrev cN:Stmt:=top 52
theorem pZ:FnScope ["part"] ["part"] (aa cN):=FnScope.of (by kernel_rfl)
theorem d4:NmL (aa cN) "part":=.of (by kernel_rfl)

theorem pT (T:Txt K mg) (hq:aL (CXe P w)) {f:Addr} {fd:FuncData} (D:Df K mg "_law_toll" cN ["part"] f fd):FnOk P w K mg base (CXe P w) 1 f fd ["part"] (j9 T):=by
 refine D.F.okC pZ (fun vs H Q E h=>?_) (fun cdv A outer s H vs Q E hr h=>?_)
 · obtain ⟨c,rfl,_⟩:=h
   rfl
 · obtain ⟨c,rfl,k⟩:=h
   refine ⟨_,(am (aX (aK bZ (au aQ (pvl 0 d4) ak) ak (aJ _)) (ao (aB (au dC ak (au aQ (au bH (pvl 0 d4) ak) (au gO (au dG ak ak) ak))))) aF) (ao (aB (au dC ak (au aQ (au bH (pvl 0 d4) ak) ak))))),?_⟩
   rw [show L2.start ["part"] [V.int c]=[some (V.int c)] from rfl]
   walk_at "rd"
   have e6:(10:Int) ^ Int.toNat 6 - 1=999999:=by decide
   have a1:=Int.emod_nonneg (c / 8) (show (999999:Int)≠0 by decide)
   have a2:=Int.emod_lt_of_pos (c / 8) (show (0:Int) < 999999 by decide)
   have a3:=Int.emod_nonneg (c / 8) (show (4:Int)≠0 by decide)
   have a4:=Int.emod_lt_of_pos (c / 8) (show (0:Int) < 4 by decide)
   refine ⟨by decide,?_⟩
   by_cases z:c % 8=7
   · rw [if_pos z]
     refine ⟨⟨by decide,by decide⟩,⟨by decide,by decide,by decide⟩,by decide,?_⟩
     rw [e6]
     exact k _ (by omega) (by omega)
   · rw [if_neg z]
     exact ⟨⟨by decide,by decide⟩,by decide,k _ (by omega) (by omega)⟩
/-! #### _law_roads -/
def je (T:Txt K mg):Sp:=fun vs H Q _=>∃ (a:Addr) (ns:List Int) (m s:Int),vs=[.ref a,.int m,.int s]∧SqL K H a (ns.map V.int)∧1≤m∧m≤24∧0≤s∧s < 4 ∧
 ∀ (l:Addr) (ps:List Addr) (rs:List Road) (H':Hp),H l=none→Same H H'→H' l=some (.lst (ps.map V.ref))→RoadsAt H' ps rs→Good m rs→Q (.ref l) H'
abbrev aR:Stmt:=top 53
theorem sc_law_roads:FnScope ["script","many","shape","roads","k","part","to","there","back"] ["script","many","shape"] (aa aR):=FnScope.of (by kernel_rfl)
theorem iT:NmL (aa aR) "script":=.of (by kernel_rfl)
theorem jQ:NmL (aa aR) "many":=.of (by kernel_rfl)
theorem jv:NmL (aa aR) "shape":=.of (by kernel_rfl)
theorem n_law_roads__roads:NmL (aa aR) "roads":=.of (by kernel_rfl)
theorem n_law_roads__k:NmL (aa aR) "k":=.of (by kernel_rfl)
theorem n_law_roads__part:NmL (aa aR) "part":=.of (by kernel_rfl)
theorem n_law_roads__to:NmL (aa aR) "to":=.of (by kernel_rfl)
theorem n_law_roads__there:NmL (aa aR) "there":=.of (by kernel_rfl)
theorem n_law_roads__back:NmL (aa aR) "back":=.of (by kernel_rfl)
theorem n_law_roads__range:NmG (aa aR) "range":=.of (by kernel_rfl)
theorem n_law_roads__law_drawn:NmG (aa aR) "_law_drawn":=.of (by kernel_rfl)
theorem n_law_roads__law_toll:NmG (aa aR) "_law_toll":=.of (by kernel_rfl)

theorem pD (T:Txt K mg) (hq:aL (CXe P w)) {f:Addr} {fd:FuncData} (D:Df K mg "_law_roads" aR ["script","many","shape"] f fd) {f_law_drawn:Addr} {fd_law_drawn:FuncData} (D_law_drawn:Df K mg "_law_drawn" aU ["script","k"] f_law_drawn fd_law_drawn) (G_law_drawn:FnOk P w K mg base (CXe P w) 1 f_law_drawn fd_law_drawn ["script","k"] (cQ T)) {f_law_toll:Addr} {fd_law_toll:FuncData} (D_law_toll:Df K mg "_law_toll" cN ["part"] f_law_toll fd_law_toll) (G_law_toll:FnOk P w K mg base (CXe P w) 1 f_law_toll fd_law_toll ["part"] (j9 T)):FnOk P w K mg base (CXe P w) 2 f fd ["script","many","shape"] (je T):=by
 refine D.F.okC sc_law_roads (fun vs H Q E h=>?_) (fun cdv A outer s H vs Q E hr h=>?_)
 · obtain ⟨a,ns,m,s,rfl,_⟩:=h
   rfl
 · obtain ⟨a,ns,m,sh,rfl,ha,m1,m24,sh0,sh4,k⟩:=h
   refine ⟨_,(am (ay (i:=3) sc_law_roads.nd rfl (Or.inl n_law_roads__roads.l) (bB aj)) (am (cD PassesOwn.never rfl (iX n_law_roads__range.g T.range (ag ak (ag (pvl 1 jQ) aj))) (aO (i:=4) sc_law_roads.nd rfl (Or.inl n_law_roads__k.l)) (am (ay (i:=5) sc_law_roads.nd rfl (Or.inl n_law_roads__part.l) (aq G_law_drawn (hr.mono (by decide)) n_law_roads__law_drawn.g D_law_drawn.m D_law_drawn.F.kp D_law_drawn.b .nil (aS hq) (ag (pvl 0 iT) (ag (pvl 4 n_law_roads__k) aj)) (hdb:=n_law_roads__law_drawn.d))) (am (ay (i:=6) sc_law_roads.nd rfl (Or.inl n_law_roads__to.l) (aP bO (bB (ag (au aQ (pvl 5 n_law_roads__part) (pvl 4 n_law_roads__k)) (ag (au gO (pvl 4 n_law_roads__k) ak) (ag ak (ag (au aQ (pvl 5 n_law_roads__part) (pvl 4 n_law_roads__k)) aj))))) (pvl 2 jv) (fun _ _=>rfl))) (am (ay (i:=5) sc_law_roads.nd rfl (Or.inl n_law_roads__part.l) (au bH (pvl 5 n_law_roads__part) (pvl 4 n_law_roads__k))) (am (ay (i:=7) sc_law_roads.nd rfl (Or.inl n_law_roads__there.l) (aq G_law_toll (hr.mono (by decide)) n_law_roads__law_toll.g D_law_toll.m D_law_toll.F.kp D_law_toll.b .nil (aS hq) (ag (au aQ (pvl 5 n_law_roads__part) (au dG ak ak)) aj) (hdb:=n_law_roads__law_toll.d))) (am (ay (i:=8) sc_law_roads.nd rfl (Or.inl n_law_roads__back.l) (aq G_law_toll (hr.mono (by decide)) n_law_roads__law_toll.g D_law_toll.m D_law_toll.F.kp D_law_toll.b .nil (aS hq) (ag (au aQ (au bH (pvl 5 n_law_roads__part) (au dG ak ak)) (au dG ak ak)) aj) (hdb:=n_law_roads__law_toll.d))) (am (aX (aK bZ (au aQ (au pI (pvl 5 n_law_roads__part) (au dG ak ak)) ak) ak (aJ _)) (ao (ay (i:=8) sc_law_roads.nd rfl (Or.inl n_law_roads__back.l) (pvl 7 n_law_roads__there))) aF) (ao (aX (aK bZ (au aQ (au pI (pvl 5 n_law_roads__part) (au dG ak ak)) ak) ak (aJ _)) (ao (bG (dP PySem.F.plainAttrs_list PySem.F.slot_list_append PySem.F.type_list_append cq (pvl 3 n_law_roads__roads) (ag (cX (ag (pvl 6 n_law_roads__to) (ag (pvl 4 n_law_roads__k) (ag (pvl 7 n_law_roads__there) (ag (pvl 8 n_law_roads__back) aj))))) aj)))) (ao (bG (dP PySem.F.plainAttrs_list PySem.F.slot_list_insert PySem.F.type_list_insert mR (pvl 3 n_law_roads__roads) (ag ak (ag (cX (ag (pvl 4 n_law_roads__k) (ag (pvl 6 n_law_roads__to) (ag (pvl 8 n_law_roads__back) (ag (pvl 7 n_law_roads__there) aj))))) aj)))))))))))))) (ao (aB (pvl 3 n_law_roads__roads))))),?_⟩
   rw [show L2.start ["script","many","shape","roads","k","part","to","there","back"] [V.ref a,V.int m,V.int sh]=[some (V.ref a),some (V.int m),some (V.int sh),none,none,none,none,none,none] from rfl]
   walk_at "rd"
   refine ⟨by decide,fun lo nlo=>⟨1,m,⟨rfl,rfl⟩,⟨by decide,by decide,by omega,by omega⟩,?_⟩⟩
   refine fX (fun i σ H3=>∃ (ps:List Addr) (rs:List Road) (rows:List Row) (v4 v5 v6 v7 v8:Option V),σ=[some (V.ref a),some (V.int m),some (V.int sh),some (V.ref lo),v4,v5,v6,v7,v8]∧Same H H3∧H3 lo=some (.lst (ps.map V.ref))∧RoadsAt H3 ps rs∧Rows i rows∧Put (below m.toNat) rows rs) ⟨[],[],[],_,_,_,_,_,rfl,Same.new _ nlo,ah,.nil,⟨rfl,fun i r h=>by cases h⟩,Put.nil _⟩ ?_ ?_
   · rintro i σ H3 N hN hi ⟨ps,rs,rows,v4,v5,v6,v7,v8,rfl,s3,hl3,ro3,R,P⟩
     have k0:(1:Int)≤1 + (i:Int):=by omega
     have k1:1 + (i:Int) < m:=by omega
     generalize hk:(1:Int) + (i:Int)=kk at k0 k1 ⊢
     have psl:ps.length=rs.length:=Paired.length ro3
     have rl:=R.len
     have pl:=P.len
     walk_at "rd"
     refine ⟨a,ns,kk,rfl,Same.seq s3 ha,by omega,by omega,fun c c0=>?_⟩
     have em:∀ (x n:Int),0 < n→0≤x % n∧x % n < n:=fun x n h=>⟨Int.emod_nonneg x (Int.ne_of_gt h),Int.emod_lt_of_pos x h⟩
     have hg:=em c kk (by omega)
     have cp9:Ao 10 9:=⟨by decide,by decide,by decide⟩
     have e9:(10:Int) ^ Int.toNat 9=1000000000:=by decide
     have e18:(10:Int) ^ Int.toNat 18=1000000000000000000:=by decide
     have e19:(10:Int) ^ Int.toNat 19=10000000000000000000:=by decide
     refine ⟨c,rfl,by omega,c,rfl,by omega,aD (by simp),fun q1 hq1=>?_⟩
     have s4:=Same.new (.lst [.int (c % kk),.int (kk - 1),.int 0,.int (c % kk)]) hq1
     obtain ⟨un,hun,u0,u1⟩:∃ un:Int,atI [V.int (c % kk),V.int (kk - 1),V.int 0,V.int (c % kk)] sh=some (.int un)∧0≤un∧un < kk:=by
       rcases (show sh=0∨sh=1∨sh=2∨sh=3 by omega) with z | z | z | z
       · exact ⟨_,by rw [z]; rfl,hg.1,hg.2⟩
       · exact ⟨_,by rw [z]; rfl,by omega,by omega⟩
       · exact ⟨_,by rw [z]; rfl,by omega,by omega⟩
       · exact ⟨_,by rw [z]; rfl,hg.1,hg.2⟩
     refine ixL ah hun ?_
     generalize upd H3 q1 (.lst [.int (c % kk),.int (kk - 1),.int 0,.int (c % kk)])=H4 at s4 ⊢
     rw [e9,e18,e19]
     refine ⟨c,rfl,⟨by omega,by omega⟩,cp9,by decide,_,rfl,fun th t0 t1=>⟨cp9,⟨by decide,by decide⟩,cp9,by decide,_,rfl,fun bk b0 b1=>⟨⟨by decide,by decide,by decide⟩,⟨by decide,by decide⟩,by decide,?_⟩⟩⟩
     have hl4:=s4 _ _ hl3
     have ro4:=RoadsAt.same s4 ro3
     have lu:=k6 (n:=m.toNat) u0 (by omega)
     have lk:=k6 (n:=m.toNat) (show 0≤kk by omega) (by omega)
     have keep:∀ {H7:Hp} {zs:List V} {q:Addr} {r':Road},Same H3 H7→H7 q=some (.tup (dQ r'))→upd H7 lo (.lst zs) q=some (.tup (dQ r')):=fun {H7 zs q r'} s7 h=>by rw [ap (eu h (s7 _ _ hl3) (by intro z; cases z))]; exact h
     have fin:∀ (H7:Hp) (q:Addr) (row:Row) (n:Nat) (v5 v6 v7 v8:Option V),Same H3 H7→row.k=kk→RowOk row→H7 q=some (.tup (dQ (c7 (below m.toNat) row)))→N [some (V.ref a),some (V.int m),some (V.int sh),some (V.ref lo),some (V.int kk),v5,v6,v7,v8] (upd H7 lo (.lst ((ps.take n ++ q :: ps.drop n).map V.ref))):=by
       intro H7 q row n v5 v6 v7 v8 s7 rk rok hq
       refine hN _ _ ⟨_,rs.take n ++ c7 (below m.toNat) row :: rs.drop n,rows ++ [row],_,_,_,_,_,rfl,(s3.trans s7).put nlo _,ah,?_,uc R (by omega) rok,P.step row n⟩
       exact Ag n (Paired.imp' (fun p r h=>keep s7 h) (RoadsAt.same s7 ro3)) (keep s7 hq)
     have app:∀ (H7:Hp) (q:Addr) (row:Row) (v5 v6 v7 v8:Option V),Same H3 H7→row.k=kk→RowOk row→H7 q=some (.tup (dQ (c7 (below m.toNat) row)))→rAppend (V.ref lo) [V.ref q] H7 fun _ H1=>N [some (V.ref a),some (V.int m),some (V.int sh),some (V.ref lo),some (V.int kk),v5,v6,v7,v8] H1:=fun H7 q row v5 v6 v7 v8 s7 rk rok hq=>by
       refine gc (s7 _ _ hl3) (cr (by rw [List.length_map]; omega)) ?_
       have:=fin H7 q row ps.length v5 v6 v7 v8 s7 rk rok hq
       rw [List.take_length,List.drop_length,List.map_append] at this
       exact this
     have ins:∀ (H7:Hp) (q:Addr) (row:Row) (v5 v6 v7 v8:Option V),Same H3 H7→row.k=kk→RowOk row→H7 q=some (.tup (dQ (c7 (below m.toNat) row)))→rInsert (V.ref lo) [V.int 0,V.ref q] H7 fun _ H1=>N [some (V.ref a),some (V.int m),some (V.int sh),some (V.ref lo),some (V.int kk),v5,v6,v7,v8] H1:=fun H7 q row v5 v6 v7 v8 s7 rk rok hq=>by
       refine Af (s7 _ _ hl3) (Int.le_refl _) (by omega) (cr (by rw [List.length_map]; omega)) ?_
       have:=fin H7 q row 0 v5 v6 v7 v8 s7 rk rok hq
       rw [List.take_zero,List.drop_zero,List.nil_append] at this
       exact this
     have e1:∀ x y:Int,dQ (c7 (below m.toNat) ⟨kk,un,x,y,1,0⟩)=[V.int un,V.int kk,V.int x,V.int y]:=fun x y=>by
       unfold c7
       rw [if_pos rfl]
       show [V.int ((below m.toNat).getD un.toNat 0),V.int ((below m.toNat).getD kk.toNat 0),V.int x,V.int y]=_
       rw [lu,lk]
     have e2:∀ x y:Int,dQ (c7 (below m.toNat) ⟨kk,un,x,y,0,0⟩)=[V.int kk,V.int un,V.int x,V.int y]:=fun x y=>by
       unfold c7
       rw [if_neg (show ¬ (0:Int)=1 by decide)]
       show [V.int ((below m.toNat).getD kk.toNat 0),V.int ((below m.toNat).getD un.toNat 0),V.int x,V.int y]=_
       rw [lu,lk]
     have okR:∀ (x y w:Int),2≤x→x≤1000000→2≤y→y≤1000000→RowOk ⟨kk,un,x,y,w,0⟩:=fun x y w a b c d=>⟨u0,u1,a,b,c,d,Int.le_refl _,by show (0:Int) < kk; omega⟩
     have both:∀ (th bk:Int) (v5 v7 v8:Option V),2≤th→th≤1000000→2≤bk→bk≤1000000→(tyV K "list" (V.ref lo) H4∧[V.int un,V.int kk,V.int th,V.int bk].length≤sizeLine∧∀ p,H4 p=none→rAppend (V.ref lo) [V.ref p] (upd H4 p (.tup [V.int un,V.int kk,V.int th,V.int bk])) fun _ H1=>N [some (V.ref a),some (V.int m),some (V.int sh),some (V.ref lo),some (V.int kk),v5,some (V.int un),v7,v8] H1)∧(tyV K "list" (V.ref lo) H4∧[V.int kk,V.int un,V.int bk,V.int th].length≤sizeLine∧∀ p,H4 p=none→rInsert (V.ref lo) [V.int 0,V.ref p] (upd H4 p (.tup [V.int kk,V.int un,V.int bk,V.int th])) fun _ H1=>N [some (V.ref a),some (V.int m),some (V.int sh),some (V.ref lo),some (V.int kk),v5,some (V.int un),v7,v8] H1):=fun th bk v5 v7 v8 t0 t1 b0 b1 =>
       ⟨⟨tyL hl4,aD (by simp),fun p hp=>app _ p ⟨kk,un,th,bk,1,0⟩ _ _ _ _ (s4.trans (Same.new _ hp)) rfl (okR _ _ _ t0 t1 b0 b1) (by rw [ah,e1])⟩,⟨tyL hl4,aD (by simp),fun p hp=>ins _ p ⟨kk,un,bk,th,0,0⟩ _ _ _ _ (s4.trans (Same.new _ hp)) rfl (okR _ _ _ b0 b1 t0 t1) (by rw [ah,e2])⟩⟩
     by_cases y1:c / kk / 1000000000000000000 % 3=0
     · rw [if_pos y1]
       refine ⟨⟨by decide,by decide,by decide⟩,⟨by decide,by decide⟩,by decide,?_⟩
       by_cases y2:c / kk / 10000000000000000000 % 2=0
       · rw [if_pos y2]
         exact (both th th _ _ _ t0 t1 t0 t1).1
       · rw [if_neg y2]
         exact (both th th _ _ _ t0 t1 t0 t1).2
     · rw [if_neg y1]
       refine ⟨⟨by decide,by decide,by decide⟩,⟨by decide,by decide⟩,by decide,?_⟩
       by_cases y2:c / kk / 10000000000000000000 % 2=0
       · rw [if_pos y2]
         exact (both th bk _ _ _ t0 t1 b0 b1).1
       · rw [if_neg y2]
         exact (both th bk _ _ _ t0 t1 b0 b1).2
   · rintro σ H3 ⟨ps,rs,rows,v4,v5,v6,v7,v8,rfl,s3,hl3,ro3,R,P⟩
     have g:=y6 (n:=m.toNat) (by omega) (by omega) (oY _) (by rw [show m.toNat - 1=(m - 1).toNat by omega]; exact R) P
     rw [Int.toNat_of_nonneg (by omega)] at g
     walk_at "rd"
     exact k lo ps rs H3 nlo s3 hl3 ro3 g
/-! #### _law_web -/
def lm (T:Txt K mg):Sp:=fun vs H Q _=>∃ (a:Addr) (ns:List Int) (z:Int),vs=[.ref a,.int z]∧SqL K H a (ns.map V.int)∧1≤z∧z≤24 ∧
 ∀ (t l:Addr) (m:Int) (ps:List Addr) (rs:List Road) (H':Hp),H t=none→H l=none→Same H H'→H' t=some (.tup [.int m,.ref l])→H' l=some (.lst (ps.map V.ref))→RoadsAt H' ps rs→Good m rs→Q (.ref t) H'
abbrev b3:Stmt:=top 54
theorem sc_law_web:FnScope ["script","reach","head","many"] ["script","reach"] (aa b3):=FnScope.of (by kernel_rfl)
theorem fU:NmL (aa b3) "script":=.of (by kernel_rfl)
theorem d5:NmL (aa b3) "reach":=.of (by kernel_rfl)
theorem n_law_web__head:NmL (aa b3) "head":=.of (by kernel_rfl)
theorem n_law_web__many:NmL (aa b3) "many":=.of (by kernel_rfl)
theorem n_law_web__law_drawn:NmG (aa b3) "_law_drawn":=.of (by kernel_rfl)
theorem n_law_web__law_roads:NmG (aa b3) "_law_roads":=.of (by kernel_rfl)

theorem qZ (T:Txt K mg) (hq:aL (CXe P w)) {f:Addr} {fd:FuncData} (D:Df K mg "_law_web" b3 ["script","reach"] f fd) {f_law_drawn:Addr} {fd_law_drawn:FuncData} (D_law_drawn:Df K mg "_law_drawn" aU ["script","k"] f_law_drawn fd_law_drawn) (G_law_drawn:FnOk P w K mg base (CXe P w) 1 f_law_drawn fd_law_drawn ["script","k"] (cQ T)) {f_law_roads:Addr} {fd_law_roads:FuncData} (D_law_roads:Df K mg "_law_roads" aR ["script","many","shape"] f_law_roads fd_law_roads) (G_law_roads:FnOk P w K mg base (CXe P w) 2 f_law_roads fd_law_roads ["script","many","shape"] (je T)):FnOk P w K mg base (CXe P w) 3 f fd ["script","reach"] (lm T):=by
 refine D.F.okC sc_law_web (fun vs H Q E h=>?_) (fun cdv A outer s H vs Q E hr h=>?_)
 · obtain ⟨a,ns,z,rfl,_⟩:=h
   rfl
 · obtain ⟨a,ns,z,rfl,ha,z1,z24,k⟩:=h
   refine ⟨_,(am (ay (i:=2) sc_law_web.nd rfl (Or.inl n_law_web__head.l) (au bH (aq G_law_drawn (hr.mono (by decide)) n_law_web__law_drawn.g D_law_drawn.m D_law_drawn.F.kp D_law_drawn.b .nil (aS hq) (ag (pvl 0 fU) (ag ak aj)) (hdb:=n_law_web__law_drawn.d)) ak)) (am (ay (i:=3) sc_law_web.nd rfl (Or.inl n_law_web__many.l) (au dC ak (au aQ (pvl 2 n_law_web__head) (pvl 1 d5)))) (am (aX (aK bZ (au aQ (au bH (pvl 2 n_law_web__head) (pvl 1 d5)) ak) ak (aJ _)) (ao (ay (i:=3) sc_law_web.nd rfl (Or.inl n_law_web__many.l) (au dC ak (au aQ (au bH (pvl 2 n_law_web__head) (au eI ak (pvl 1 d5))) ak)))) aF) (ao (aB (cX (ag (pvl 3 n_law_web__many) (ag (aq G_law_roads (hr.mono (by decide)) n_law_web__law_roads.g D_law_roads.m D_law_roads.F.kp D_law_roads.b .nil (aS hq) (ag (pvl 0 fU) (ag (pvl 3 n_law_web__many) (ag (au aQ (au bH (pvl 2 n_law_web__head) ak) ak) aj))) (hdb:=n_law_web__law_roads.d)) aj)))))))),?_⟩
   rw [show L2.start ["script","reach","head","many"] [V.ref a,V.int z]=[some (V.ref a),some (V.int z),none,none] from rfl]
   have em:∀ (x n:Int),0 < n→0≤x % n∧x % n < n:=fun x n h=>⟨Int.emod_nonneg x (Int.ne_of_gt h),Int.emod_lt_of_pos x h⟩
   walk_at "rd"
   refine ⟨a,ns,0,rfl,ha,by decide,by decide,fun c c0=>⟨c,rfl,⟨by decide,by decide⟩,by omega,⟨by omega,by omega⟩,by decide,?_⟩⟩
   have h1:=em (c / 2) z (by omega)
   have h2:=em (c / 2 / (12 * z)) 24 (by decide)
   have h3:=em (c / 2 / 300) 4 (by decide)
   apply yT (1 + c / 2 / (12 * z) % 24) (1 + c / 2 % z)
   · generalize 1 + c / 2 % z=m
     intro h
     exact h
   · exact fun h=>⟨.inl ⟨by decide,by decide⟩,⟨by omega,by omega⟩,by decide,h⟩
   intro m hm
   have m1:1≤m:=by omega
   have m24:m≤24:=by omega
   clear hm
   refine ⟨⟨by decide,by decide⟩,by decide,?_⟩
   refine ⟨a,ns,m,_,rfl,ha,m1,m24,h3.1,h3.2,fun l ps rs H1 nl s1 el ro g=>⟨aD (by simp),fun t nt=>?_⟩⟩
   have s2:=Same.new (.tup [.int m,.ref l]) nt
   exact k t l m ps rs _ (s1.free nt) nl (s1.trans s2) ah (s2 _ _ el) (RoadsAt.same s2 ro) g
/-! #### _law_wish -/
def j8 (T:Txt K mg):Sp:=fun vs H Q _=>∃ (a:Addr) (ns:List Int) (m b:Int),vs=[.ref a,.int m,.int b]∧SqL K H a (ns.map V.int)∧ns.length≤63∧1≤m∧m≤24∧1≤b∧∀ (l:Addr) (xs:List Int) (H':Hp),H l=none→Same H H'→H' l=some (.lst (xs.map V.int))→(xs.length:Int)=m→(∀ x∈xs,0≤x)→Q (.ref l) H'
abbrev bw:Stmt:=top 57
theorem sc_law_wish:FnScope ["script","many","bound","wish","k","place"] ["script","many","bound"] (aa bw):=FnScope.of (by kernel_rfl)
theorem dE:NmL (aa bw) "script":=.of (by kernel_rfl)
theorem c8:NmL (aa bw) "many":=.of (by kernel_rfl)
theorem jT:NmL (aa bw) "bound":=.of (by kernel_rfl)
theorem n_law_wish__wish:NmL (aa bw) "wish":=.of (by kernel_rfl)
theorem n_law_wish__k:NmL (aa bw) "k":=.of (by kernel_rfl)
theorem n_law_wish__place:NmL (aa bw) "place":=.of (by kernel_rfl)
theorem n_law_wish__range:NmG (aa bw) "range":=.of (by kernel_rfl)
theorem n_law_wish__len:NmG (aa bw) "len":=.of (by kernel_rfl)
theorem n_law_wish__law_drawn:NmG (aa bw) "_law_drawn":=.of (by kernel_rfl)

theorem pW (T:Txt K mg) (hq:aL (CXe P w)) {f:Addr} {fd:FuncData} (D:Df K mg "_law_wish" bw ["script","many","bound"] f fd) {f_law_drawn:Addr} {fd_law_drawn:FuncData} (D_law_drawn:Df K mg "_law_drawn" aU ["script","k"] f_law_drawn fd_law_drawn) (G_law_drawn:FnOk P w K mg base (CXe P w) 1 f_law_drawn fd_law_drawn ["script","k"] (cQ T)):FnOk P w K mg base (CXe P w) 2 f fd ["script","many","bound"] (j8 T):=by
 refine D.F.okC sc_law_wish (fun vs H Q E h=>?_) (fun cdv A outer s H vs Q E hr h=>?_)
 · obtain ⟨a,ns,m,b,rfl,_⟩:=h
   rfl
 · obtain ⟨a,ns,m,b,rfl,ha,hn,m0,m1,b0,k⟩:=h
   refine ⟨_,(am (ay (i:=3) sc_law_wish.nd rfl (Or.inl n_law_wish__wish.l) (au ph (bB (ag ak aj)) (pvl 1 c8))) (am (cD PassesOwn.never rfl (iX n_law_wish__range.g T.range (ag (pvl 1 c8) (ag (bQ cC n_law_wish__len.g T.len eC (ag (pvl 0 dE) aj) (hn:=n_law_wish__len.n) (hdb:=n_law_wish__len.d)) aj))) (aO (i:=4) sc_law_wish.nd rfl (Or.inl n_law_wish__k.l)) (ao (aX (aK bZ (au aQ (pvl 4 n_law_wish__k) ak) ak (aJ _)) (am (ay (i:=5) sc_law_wish.nd rfl (Or.inl n_law_wish__place.l) (au aQ (aq G_law_drawn (hr.mono (by decide)) n_law_wish__law_drawn.g D_law_drawn.m D_law_drawn.F.kp D_law_drawn.b .nil (aS hq) (ag (pvl 0 dE) (ag (pvl 4 n_law_wish__k) aj)) (hdb:=n_law_wish__law_drawn.d)) (pvl 1 c8))) (ao (gZ (au aQ (au bH (aq G_law_drawn (hr.mono (by decide)) n_law_wish__law_drawn.g D_law_drawn.m D_law_drawn.F.kp D_law_drawn.b .nil (aS hq) (ag (pvl 0 dE) (ag (pvl 4 n_law_wish__k) aj)) (hdb:=n_law_wish__law_drawn.d)) (pvl 1 c8)) (aP bO (bB (ag (pvl 2 jT) (ag ak (ag ak aj)))) (au aQ (au bH (pvl 4 n_law_wish__k) ak) ak) (fun _ _=>rfl))) (jd (pvl 3 n_law_wish__wish) (pvl 5 n_law_wish__place) dD)))) aF))) (ao (aB (pvl 3 n_law_wish__wish))))),?_⟩
   rw [show L2.start ["script","many","bound","wish","k","place"] [V.ref a,V.int m,V.int b]=[some (V.ref a),some (V.int m),some (V.int b),none,none,none] from rfl]
   walk_at "rd"
   refine ⟨aD (by simp),fun l0 n0=>?_⟩
   refine ⟨l0,m,_,rfl,rfl,ah,by omega,by omega,aD (by simp; omega),fun l n1=>?_⟩
   rw [yh]
   have s0:Same H (upd H l0 (.lst [.int 0])):=Same.new _ n0
   have s1:=s0.trans (Same.new (.lst (List.replicate m.toNat (V.int 0))) n1)
   have nl:=s0.free n1
   refine ⟨_,.inl (Same.seq s1 ha),m,_,⟨rfl,rfl⟩,⟨by omega,by omega,by omega,by rw [List.length_map]; omega⟩,?_⟩
   rw [List.length_map]
   have e1:upd (upd H l0 (.lst [.int 0])) l (.lst (List.replicate m.toNat (V.int 0))) l=some (.lst ((List.replicate m.toNat (0:Int)).map V.int)):=by rw [ah,List.map_replicate]
   generalize upd (upd H l0 (.lst [.int 0])) l (.lst (List.replicate m.toNat (V.int 0)))=H1 at s1 e1 ⊢
   refine fX (fun i σ H2=>Same H H2∧∃ (xs:List Int) (v4 v5:Option V),H2 l=some (.lst (xs.map V.int))∧(xs.length:Int)=m∧(∀ x∈xs,0≤x)∧σ=[some (.ref a),some (.int m),some (.int b),some (.ref l),v4,v5]) ⟨s1,_,_,_,e1,by rw [List.length_replicate]; omega,fun x hx=>by rw [(List.mem_replicate.mp hx).2]; decide,rfl⟩ ?_ ?_
   · rintro i σ H2 N hN hi ⟨s2,xs,v4,v5,e2,xl,x0,rfl⟩
     have i0:0≤m + (i:Int):=by omega
     have i1:m + (i:Int)≤1000:=by omega
     generalize m + (i:Int)=j at i0 i1 ⊢
     have sa:=Same.seq s2 ha
     walk_at "rd"
     refine ⟨by decide,?_⟩
     by_cases z:j % 2=1
     · rw [if_pos z]
       refine ⟨a,ns,j,rfl,sa,i0,i1,fun c c0=>⟨c,rfl,by omega,?_⟩⟩
       have h1:=Int.emod_nonneg c (show m≠0 by omega)
       have h2:=Int.emod_lt_of_pos c (show 0 < m by omega)
       generalize c % m=p at h1 h2 ⊢
       refine ⟨a,ns,j,rfl,sa,i0,i1,fun c' c0'=>?_⟩
       refine ⟨c',rfl,⟨by omega,by omega⟩,aD (by simp),fun q nq=>⟨⟨by decide,by decide⟩,by decide,?_⟩⟩
       have s3:=Same.new (.lst [V.int b,V.int 3,V.int 2]) nq
       obtain ⟨w,hw,w0⟩:∃ w:Int,atI [V.int b,V.int 3,V.int 2] (j / 2 % 3)=some (.int w)∧0 < w:=by
         rcases (show j / 2 % 3=0∨j / 2 % 3=1∨j / 2 % 3=2 by omega) with z | z | z
         · exact ⟨_,by rw [z]; rfl,b0⟩
         · exact ⟨_,by rw [z]; rfl,by decide⟩
         · exact ⟨_,by rw [z]; rfl,by decide⟩
       refine ixL ah hw ⟨w,rfl,w0,kq (s3 _ _ e2) h1 (by rw [List.length_map]; omega) (hN _ _ ⟨(s2.trans s3).put nl _,xs.set p.toNat (c' / m % w),_,_,by rw [ah,List.map_set],by rw [List.length_set]; exact xl,sW x0 (Int.emod_nonneg _ (by omega)),rfl⟩)⟩
     · rw [if_neg z]
       exact hN _ _ ⟨s2,xs,_,_,e2,xl,x0,rfl⟩
   · rintro σ H2 ⟨s2,xs,v4,v5,e2,xl,x0,rfl⟩
     exact ⟨_,rfl,k l xs H2 nl s2 e2 xl x0⟩
/-! #### law -/
def og (K:PySem.W.Frag):Sp:=fun vs H Q _=>∃ (a:Addr) (ns:List Int),vs=[.ref a]∧SqL K H a (ns.map V.int)∧ns.length≤63∧∀ H',Q (.bl true) H'
def AX (T:Txt K mg):Sp:=og K
theorem oh {K:PySem.W.Frag} {H:Hp} {l l':Addr} {bs cs:List Bool} {Q:VK} (h1:H l=some (.lst (bs.map V.bl))) (h2:H l'=some (.lst (cs.map V.bl))) (e:bs=cs) (q:Q (.bl false) H):AQ K (.ref l) (.ref l') H Q:=by
 refine ⟨_,_,.lst (SqL.of h1) (mG _),.lst (SqL.of h2) (mG _),?_,?_⟩
 · have:=pO bs
   simp only [PyData.depth]
   omega
 · simp only [PyData.eqv]
   rw [ud,decide_eq_true e]
   exact q
theorem kd1 {m:Int} {xs ys:List Int} {so r:Int} (f:ax m xs=false):kdL m xs ys so r=[true,false,false,true,false]:=by unfold kdL; rw [if_pos f]
theorem kd2 {m:Int} {xs ys:List Int} {so r:Int} (f:ax m xs=true) (f2:ax m ys=false):kdL m xs ys so r=[false,true,false,true,false]:=by unfold kdL; rw [if_neg (by rw [f]; decide),if_pos f2]
theorem kd3 {m:Int} {xs ys:List Int} {so r:Int} (f:ax m xs=true) (f2:ax m ys=true) (h:so < 2) (n:¬ (0≤r∧r < m)):kdL m xs ys so r=[false,false,true,true,false]:=by unfold kdL; rw [if_neg (by rw [f]; decide),if_neg (by rw [f2]; decide),if_pos ⟨h,n⟩]
theorem kd4 {m:Int} {xs ys:List Int} {so r:Int} (f:ax m xs=true) (f2:ax m ys=true) (h:0≤r∧r < m):kdL m xs ys so r=[]:=by unfold kdL; rw [if_neg (by rw [f]; decide),if_neg (by rw [f2]; decide),if_neg (fun z=>z.2 h)]
theorem yz {m:Int} {zs:List Int} (h:(zs.length:Int)≠m∨∃ z∈zs,z < 0):ax m zs=false:=by
 cases e:ax m zs
 · rfl
 · rcases h with h | ⟨z,hz,h⟩
   · exact absurd (cW e) h
   · have:=sL e z hz
     omega
abbrev bd:Stmt:=top 61
theorem sc_law:FnScope ["script","many","roads","web","bound","laying","wish","cell","no_laying","no_wish","no_place","k","bad","place","sort","some","told","r"] ["script"] (aa bd):=FnScope.of (by kernel_rfl)
theorem cF:NmL (aa bd) "script":=.of (by kernel_rfl)
theorem n_law__many:NmL (aa bd) "many":=.of (by kernel_rfl)
theorem n_law__roads:NmL (aa bd) "roads":=.of (by kernel_rfl)
theorem n_law__web:NmL (aa bd) "web":=.of (by kernel_rfl)
theorem n_law__bound:NmL (aa bd) "bound":=.of (by kernel_rfl)
theorem n_law__laying:NmL (aa bd) "laying":=.of (by kernel_rfl)
theorem n_law__wish:NmL (aa bd) "wish":=.of (by kernel_rfl)
theorem n_law__cell:NmL (aa bd) "cell":=.of (by kernel_rfl)
theorem n_law__no_laying:NmL (aa bd) "no_laying":=.of (by kernel_rfl)
theorem n_law__no_wish:NmL (aa bd) "no_wish":=.of (by kernel_rfl)
theorem n_law__no_place:NmL (aa bd) "no_place":=.of (by kernel_rfl)
theorem n_law__k:NmL (aa bd) "k":=.of (by kernel_rfl)
theorem n_law__bad:NmL (aa bd) "bad":=.of (by kernel_rfl)
theorem n_law__place:NmL (aa bd) "place":=.of (by kernel_rfl)
theorem n_law__sort:NmL (aa bd) "sort":=.of (by kernel_rfl)
theorem n_law__some:NmL (aa bd) "some":=.of (by kernel_rfl)
theorem n_law__told:NmL (aa bd) "told":=.of (by kernel_rfl)
theorem n_law__r:NmL (aa bd) "r":=.of (by kernel_rfl)
theorem n_law__law_web:NmG (aa bd) "_law_web":=.of (by kernel_rfl)
theorem n_law__Web:NmG (aa bd) "Web":=.of (by kernel_rfl)
theorem n_law__list:NmG (aa bd) "list":=.of (by kernel_rfl)
theorem n_law__law_bound:NmG (aa bd) "_law_bound":=.of (by kernel_rfl)
theorem n_law__law_laying:NmG (aa bd) "_law_laying":=.of (by kernel_rfl)
theorem n_law__law_wish:NmG (aa bd) "_law_wish":=.of (by kernel_rfl)
theorem n_law__law_drawn:NmG (aa bd) "_law_drawn":=.of (by kernel_rfl)
theorem n_law__range:NmG (aa bd) "range":=.of (by kernel_rfl)
theorem n_law__min:NmG (aa bd) "min":=.of (by kernel_rfl)
theorem n_law__len:NmG (aa bd) "len":=.of (by kernel_rfl)
theorem n_law__law_spoilt:NmG (aa bd) "_law_spoilt":=.of (by kernel_rfl)
theorem n_law__law_kinds:NmG (aa bd) "_law_kinds":=.of (by kernel_rfl)

theorem AW (T:Txt K mg) (hq:aL (CXe P w)) {f:Addr} {fd:FuncData} (D:Df K mg "law" bd ["script"] f fd) {f_Web___init__:Addr} {fd_Web___init__:FuncData} (F_Web___init__:Fun K "__init__" "Web.__init__" aM f_Web___init__ fd_Web___init__) (b_Web:Binds K fd_Web___init__ ["self","many","roads"] []) (M_Web:Mk K T.Web f_Web___init__) (G_Web_init:FnOk P w K mg base (CXe P w) 3 f_Web___init__ fd_Web___init__ ["self","many","roads"] (eL T)) {f_law_bound:Addr} {fd_law_bound:FuncData} (D_law_bound:Df K mg "_law_bound" b7 ["script"] f_law_bound fd_law_bound) (G_law_bound:FnOk P w K mg base (CXe P w) 2 f_law_bound fd_law_bound ["script"] (jg T)) {f_law_drawn:Addr} {fd_law_drawn:FuncData} (D_law_drawn:Df K mg "_law_drawn" aU ["script","k"] f_law_drawn fd_law_drawn) (G_law_drawn:FnOk P w K mg base (CXe P w) 1 f_law_drawn fd_law_drawn ["script","k"] (cQ T)) {f_law_kinds:Addr} {fd_law_kinds:FuncData} (D_law_kinds:Df K mg "_law_kinds" aH ["sort","web","laying","wish","r"] f_law_kinds fd_law_kinds) (G_law_kinds:FnOk P w K mg base (CXe P w) 13 f_law_kinds fd_law_kinds ["sort","web","laying","wish","r"] (iV T)) {f_law_laying:Addr} {fd_law_laying:FuncData} (D_law_laying:Df K mg "_law_laying" aW ["script","many","bound"] f_law_laying fd_law_laying) (G_law_laying:FnOk P w K mg base (CXe P w) 2 f_law_laying fd_law_laying ["script","many","bound"] (iA T)) {f_law_spoilt:Addr} {fd_law_spoilt:FuncData} (D_law_spoilt:Df K mg "_law_spoilt" bz ["numbers","cell"] f_law_spoilt fd_law_spoilt) (G_law_spoilt:FnOk P w K mg base (CXe P w) 1 f_law_spoilt fd_law_spoilt ["numbers","cell"] (iC T)) {f_law_web:Addr} {fd_law_web:FuncData} (D_law_web:Df K mg "_law_web" b3 ["script","reach"] f_law_web fd_law_web) (G_law_web:FnOk P w K mg base (CXe P w) 3 f_law_web fd_law_web ["script","reach"] (lm T)) {f_law_wish:Addr} {fd_law_wish:FuncData} (D_law_wish:Df K mg "_law_wish" bw ["script","many","bound"] f_law_wish fd_law_wish) (G_law_wish:FnOk P w K mg base (CXe P w) 2 f_law_wish fd_law_wish ["script","many","bound"] (j8 T)):FnOk P w K mg base (CXe P w) 14 f fd ["script"] (AX T):=by
 refine D.F.okC sc_law (fun vs H Q E h=>?_) (fun cdv A outer s H vs Q E hr h=>?_)
 · obtain ⟨a,ns,rfl,_⟩:=h
   rfl
 · obtain ⟨a,ns,rfl,ha,hn,k⟩:=h
   have hv:=hr.units
   refine ⟨_,(am (gZ (aq G_law_web (hr.mono (by decide)) n_law__law_web.g D_law_web.m D_law_web.F.kp D_law_web.b .nil (aS hq) (ag (pvl 0 cF) (ag ak aj)) (hdb:=n_law__law_web.d)) (gk (n:=2) rfl (bX (aO (i:=1) sc_law.nd rfl (Or.inl n_law__many.l)) (bX (aO (i:=2) sc_law.nd rfl (Or.inl n_law__roads.l)) fe)))) (am (ay (i:=3) sc_law.nd rfl (Or.inl n_law__web.l) (zr M_Web G_Web_init (hr.mono (by decide)) n_law__Web.g T.m_Web b_Web .nil (aS hq) (ag (pvl 1 n_law__many) (ag (cP gd n_law__list.g T.list mB (ag (pvl 2 n_law__roads) aj) (hn:=n_law__list.n) (hdb:=n_law__list.d)) aj)) (hdb:=n_law__Web.d))) (am (ay (i:=4) sc_law.nd rfl (Or.inl n_law__bound.l) (aq G_law_bound (hr.mono (by decide)) n_law__law_bound.g D_law_bound.m D_law_bound.F.kp D_law_bound.b .nil (aS hq) (ag (pvl 0 cF) aj) (hdb:=n_law__law_bound.d))) (am (ay (i:=5) sc_law.nd rfl (Or.inl n_law__laying.l) (aq G_law_laying (hr.mono (by decide)) n_law__law_laying.g D_law_laying.m D_law_laying.F.kp D_law_laying.b .nil (aS hq) (ag (pvl 0 cF) (ag (pvl 1 n_law__many) (ag (pvl 4 n_law__bound) aj))) (hdb:=n_law__law_laying.d))) (am (ay (i:=6) sc_law.nd rfl (Or.inl n_law__wish.l) (aq G_law_wish (hr.mono (by decide)) n_law__law_wish.g D_law_wish.m D_law_wish.F.kp D_law_wish.b .nil (aS hq) (ag (pvl 0 cF) (ag (pvl 1 n_law__many) (ag (pvl 4 n_law__bound) aj))) (hdb:=n_law__law_wish.d))) (am (ay (i:=7) sc_law.nd rfl (Or.inl n_law__cell.l) (aq G_law_drawn (hr.mono (by decide)) n_law__law_drawn.g D_law_drawn.m D_law_drawn.F.kp D_law_drawn.b .nil (aS hq) (ag (pvl 0 cF) (ag ak aj)) (hdb:=n_law__law_drawn.d))) (am (ay (i:=8) sc_law.nd rfl (Or.inl n_law__no_laying.l) (bB (ag cg (ag cg (ag cg (ag cg (ag cg aj))))))) (am (ay (i:=9) sc_law.nd rfl (Or.inl n_law__no_wish.l) (bB (ag cg (ag cg (ag cg (ag cg (ag cg aj))))))) (am (ay (i:=10) sc_law.nd rfl (Or.inl n_law__no_place.l) (bB (ag cg (ag cg (ag cg (ag cg (ag cg aj))))))) (am (cD PassesOwn.never rfl (gA n_law__range.g T.range (ag (au dC ak (bQ (sC rfl) n_law__min.g T.min Ak (ag (bQ cC n_law__len.g T.len eC (ag (pvl 0 cF) aj) (hn:=n_law__len.n) (hdb:=n_law__len.d)) (ag ak aj)) (hn:=n_law__min.n) (hdb:=n_law__min.d))) aj)) (aO (i:=11) sc_law.nd rfl (Or.inl n_law__k.l)) (am (ay (i:=7) sc_law.nd rfl (Or.inl n_law__cell.l) (au dC (au bH (pvl 7 n_law__cell) ak) (aq G_law_drawn (hr.mono (by decide)) n_law__law_drawn.g D_law_drawn.m D_law_drawn.F.kp D_law_drawn.b .nil (aS hq) (ag (pvl 0 cF) (ag (pvl 11 n_law__k) aj)) (hdb:=n_law__law_drawn.d)))) (am (ay (i:=12) sc_law.nd rfl (Or.inl n_law__bad.l) (bB (ag (aq G_law_spoilt (hr.mono (by decide)) n_law__law_spoilt.g D_law_spoilt.m D_law_spoilt.F.kp D_law_spoilt.b .nil (aS hq) (ag (pvl 5 n_law__laying) (ag (pvl 7 n_law__cell) aj)) (hdb:=n_law__law_spoilt.d)) (ag (aq G_law_spoilt (hr.mono (by decide)) n_law__law_spoilt.g D_law_spoilt.m D_law_spoilt.F.kp D_law_spoilt.b .nil (aS hq) (ag (pvl 6 n_law__wish) (ag (au bH (pvl 7 n_law__cell) ak) aj)) (hdb:=n_law__law_spoilt.d)) aj)))) (am (ay (i:=13) sc_law.nd rfl (Or.inl n_law__place.l) (aP bO (bB (ag (fY eE ak) (ag (pvl 1 n_law__many) (ag (au dC (pvl 1 n_law__many) (au aQ (au bH (pvl 7 n_law__cell) ak) (au dG ak ak))) (ag (au gO (fY eE ak) (au aQ (au bH (pvl 7 n_law__cell) ak) (au dG ak ak))) aj))))) (au aQ (au bH (pvl 7 n_law__cell) ak) ak) (fun _ _=>rfl))) (am (cD PassesOwn.never rfl (gA n_law__range.g T.range (ag ak aj)) (aO (i:=14) sc_law.nd rfl (Or.inl n_law__sort.l)) (am (cD PassesOwn.never rfl (eU (bB (ag (aP bO (pvl 12 n_law__bad) ak (fun _ _=>rfl)) (ag (pvl 6 n_law__wish) aj)))) (aO (i:=15) sc_law.nd rfl (Or.inl n_law__some.l)) (ao (aX (aK (lh hv) (aq G_law_kinds (hr.mono (by decide)) n_law__law_kinds.g D_law_kinds.m D_law_kinds.F.kp D_law_kinds.b .nil (aS hq) (ag (pvl 14 n_law__sort) (ag (pvl 3 n_law__web) (ag (aP bO (pvl 12 n_law__bad) ak (fun _ _=>rfl)) (ag (pvl 15 n_law__some) (ag (pvl 13 n_law__place) aj))))) (hdb:=n_law__law_kinds.d)) (pvl 8 n_law__no_laying) (aJ _)) (ao (aB cg)) aF))) (am (aX (aK (lh hv) (aq G_law_kinds (hr.mono (by decide)) n_law__law_kinds.g D_law_kinds.m D_law_kinds.F.kp D_law_kinds.b .nil (aS hq) (ag (pvl 14 n_law__sort) (ag (pvl 3 n_law__web) (ag (pvl 5 n_law__laying) (ag (aP bO (pvl 12 n_law__bad) ak (fun _ _=>rfl)) (ag (pvl 13 n_law__place) aj))))) (hdb:=n_law__law_kinds.d)) (pvl 9 n_law__no_wish) (aJ _)) (ao (aB cg)) aF) (am (ay (i:=16) sc_law.nd rfl (Or.inl n_law__told.l) (aq G_law_kinds (hr.mono (by decide)) n_law__law_kinds.g D_law_kinds.m D_law_kinds.F.kp D_law_kinds.b .nil (aS hq) (ag (pvl 14 n_law__sort) (ag (pvl 3 n_law__web) (ag (pvl 5 n_law__laying) (ag (pvl 6 n_law__wish) (ag (pvl 13 n_law__place) aj))))) (hdb:=n_law__law_kinds.d))) (ao (aX (PW.pt (lD (aK on (pvl 14 n_law__sort) ak (aJ _)) (jJ (aK (lh hv) (pvl 16 n_law__told) (pvl 10 n_law__no_place) (aJ _))))) (ao (aB cg)) aF)))))) (am (ay (i:=17) sc_law.nd rfl (Or.inl n_law__r.l) (au aQ (au bH (pvl 7 n_law__cell) ak) (pvl 1 n_law__many))) (ao (aX (aK (lh hv) (aq G_law_kinds (hr.mono (by decide)) n_law__law_kinds.g D_law_kinds.m D_law_kinds.F.kp D_law_kinds.b .nil (aS hq) (ag (au aQ (pvl 7 n_law__cell) ak) (ag (pvl 3 n_law__web) (ag (pvl 5 n_law__laying) (ag (pvl 6 n_law__wish) (ag (pvl 17 n_law__r) aj))))) (hdb:=n_law__law_kinds.d)) (bB aj) (aJ _)) (ao (aB cg)) aF)))))))) (ao (aB cg)))))))))))),?_⟩
   rw [show L2.start ["script","many","roads","web","bound","laying","wish","cell","no_laying","no_wish","no_place","k","bad","place","sort","some","told","r"] [V.ref a]=[some (V.ref a),none,none,none,none,none,none,none,none,none,none,none,none,none,none,none,none,none] from rfl]
   refine bo fun N1 h1=>?_
   walk_at "rd"
   refine ⟨a,ns,7,rfl,ha,by decide,by decide,fun t l m ps rs H1 nt nl s1 et el ro g=>?_⟩
   have m1:=g.m1
   have m24:=g.m24
   refine ⟨t,rfl,_,SqT.of et,rfl,_,_,rfl,_,_,rfl,rfl,h1 _ _ (bo fun N2 h2=>?_)⟩
   walk_at "rd"
   refine ⟨_,.inl (SqL.of el),fun lc nlc=>?_⟩
   have s2:=Same.new (.lst (ps.map V.ref)) nlc
   refine Au T (c:=true) (SqL.of ah) (RoadsAt.same s2 ro) g fun x tw H2 hx htw s3 W=>?_
   have s13:=s1.trans (s2.trans s3)
   refine h2 _ _ (bo fun N4 h4=>?_)
   walk_at "rd"
   refine ⟨a,ns,rfl,Same.seq s13 ha,fun b H4 b1 s5=>h4 _ _ (bo fun N5 h5=>?_)⟩
   have s15:=s13.trans s5
   walk_at "rd"
   refine ⟨a,ns,m,b,rfl,Same.seq s15 ha,hn,m1,m24,b1,fun lx xs H5 nx s6 ex xl x0=>h5 _ _ (bo fun N6 h6=>?_)⟩
   have s16:=s15.trans s6
   walk_at "rd"
   refine ⟨a,ns,m,b,rfl,Same.seq s16 ha,hn,m1,m24,b1,fun ly ys H6 ny s7 ey yl y0=>h6 _ _ (bo fun N7 h7=>?_)⟩
   have s17:=s16.trans s7
   have ex6:=s7 _ _ ex
   have W6:=W.same (s5.trans (s6.trans s7))
   have fx:=m9 xl x0
   have fy:=m9 yl y0
   walk_at "rd"
   refine ⟨a,ns,1,rfl,Same.seq s17 ha,by decide,by decide,fun c0 c00=>h7 _ _ (bo fun N8 h8=>?_)⟩
   walk_at "rd"
   refine ⟨aD (by simp),fun q1 n1=>h8 _ _ (bo fun N9 h9=>?_)⟩
   have u1:=Same.new (.lst ([true,false,false,true,false].map V.bl)) n1
   have f1:upd H6 q1 (.lst [V.bl true,V.bl false,V.bl false,V.bl true,V.bl false]) q1=some (.lst ([true,false,false,true,false].map V.bl)):=ah
   change Same H6 (upd H6 q1 (.lst [V.bl true,V.bl false,V.bl false,V.bl true,V.bl false])) at u1
   generalize upd H6 q1 (.lst [V.bl true,V.bl false,V.bl false,V.bl true,V.bl false])=H7 at u1 f1 ⊢
   walk_at "rd"
   refine ⟨aD (by simp),fun q2 n2=>h9 _ _ (bo fun N10 h10=>?_)⟩
   have u2:=Same.new (.lst ([false,true,false,true,false].map V.bl)) n2
   have f2:upd H7 q2 (.lst [V.bl false,V.bl true,V.bl false,V.bl true,V.bl false]) q2=some (.lst ([false,true,false,true,false].map V.bl)):=ah
   change Same H7 (upd H7 q2 (.lst [V.bl false,V.bl true,V.bl false,V.bl true,V.bl false])) at u2
   generalize upd H7 q2 (.lst [V.bl false,V.bl true,V.bl false,V.bl true,V.bl false])=H8 at u2 f2 ⊢
   walk_at "rd"
   refine ⟨aD (by simp),fun q3 n3=>h10 _ _ (bo fun N11 h11=>?_)⟩
   have u3:=Same.new (.lst ([false,false,true,true,false].map V.bl)) n3
   have f3:upd H8 q3 (.lst [V.bl false,V.bl false,V.bl true,V.bl true,V.bl false]) q3=some (.lst ([false,false,true,true,false].map V.bl)):=ah
   change Same H8 (upd H8 q3 (.lst [V.bl false,V.bl false,V.bl true,V.bl true,V.bl false])) at u3
   generalize upd H8 q3 (.lst [V.bl false,V.bl false,V.bl true,V.bl true,V.bl false])=H9 at u3 f3 ⊢
   have u13:=u1.trans (u2.trans u3)
   replace f1:=u3 _ _ (u2 _ _ f1)
   replace f2:=u3 _ _ f2
   have W9:=W6.same u13
   have ex9:=u13 _ _ ex6
   have ey9:=u13 _ _ ey
   have s19:=s17.trans u13
   clear W6 ex6 ey ex W s17 s16 s15 s13 u13 u1 u2 u3 el et ro
   walk_at "rd"
   refine ⟨_,.inl (Same.seq s19 ha),_,4,⟨rfl,rfl⟩,?_⟩
   rw [List.length_map]
   obtain ⟨nk,hnk,nk5⟩:∃ nk:Int,(1 + if 4 < (ns.length:Int) then (4:Int) else (ns.length:Int))=nk∧nk≤5:=⟨_,rfl,by split <;> omega⟩
   have nk0:0≤nk:=by rw [← hnk]; split <;> omega
   rw [hnk]
   refine ⟨by omega,by omega,?_⟩
   have p40:(0:Int) < 10 ^ Int.toNat 40:=Int.pow_pos (by decide)
   have mp:0 < m:=by omega
   refine lW (fun i σ H10=>Same H9 H10∧∃ (c:Int) (v11 v12 v13 v14 v15 v16 v17:Option V),0≤c∧σ=[some (V.ref a),some (V.int m),some (V.ref l),some (V.ref x),some (V.int b),some (V.ref lx),some (V.ref ly),some (V.int c),some (V.ref q1),some (V.ref q2),some (V.ref q3),v11,v12,v13,v14,v15,v16,v17]) ⟨Same.refl _,c0,_,_,_,_,_,_,_,c00,rfl⟩ ?_ ?_
   · rintro i σ H10 N BB hBB hN hi ⟨s10,c,v11,v12,v13,v14,v15,v16,v17,cc0,rfl⟩
     refine hBB _ _ (bo fun M1 k1=>?_)
     walk_at "rd"
     refine ⟨⟨by decide,by decide⟩,a,ns,_,rfl,Same.seq (s19.trans s10) ha,by omega,by omega,fun dv dv0=>⟨dv,rfl,k1 _ _ (bo fun M2 k2=>?_)⟩⟩
     have e0:0≤c / 7 + dv:=by omega
     generalize c / 7 + dv=e at e0 ⊢
     walk_at "rd"
     refine ⟨lx,xs,m,e,rfl,s10 _ _ ex9,xl,m1,m24,fun b1 us H11 nb1 s11 eb1 ub1 nf1=>?_⟩
     have s911:=s10.trans s11
     refine ⟨⟨by decide,by decide⟩,ly,ys,m,_,rfl,s911 _ _ ey9,yl,m1,m24,fun b2 ws H12 nb2 s12 eb2 ub2 nf2=>⟨aD (by simp),fun lb nlb=>k2 _ _ (bo fun M3 k3=>?_)⟩⟩
     have s13:=Same.new (.lst [V.ref b1,V.ref b2]) nlb
     have elb:upd H12 lb (.lst [V.ref b1,V.ref b2]) lb=some (.lst [V.ref b1,V.ref b2]):=ah
     have s913:=s911.trans (s12.trans s13)
     replace eb1:=s13 _ _ (s12 _ _ eb1)
     replace eb2:=s13 _ _ eb2
     generalize upd H12 lb (.lst [V.ref b1,V.ref b2])=H13 at s913 eb1 eb2 elb ⊢
     replace nf1:=yz nf1
     replace nf2:=yz nf2
     have w0:=Int.emod_nonneg (e / 9) (Int.ne_of_gt p40)
     walk_at "rd"
     generalize e / 9 % 10 ^ Int.toNat 40=aw at w0 ⊢
     refine ⟨⟨by decide,by decide⟩,⟨by decide,by decide,by decide⟩,p40,⟨by decide,by decide⟩,⟨by decide,by decide,by decide⟩,p40,aD (by simp),fun r1 nr1=>⟨⟨by decide,by decide⟩,by decide,?_⟩⟩
     obtain ⟨pl,hpl,npl⟩:∃ pl:Int,atI [V.int (-1),V.int m,V.int (m + aw),V.int (-1 - aw)] (e / 2 % 4)=some (.int pl)∧¬ (0≤pl∧pl < m):=by
       rcases (show e / 2 % 4=0∨e / 2 % 4=1∨e / 2 % 4=2∨e / 2 % 4=3 by omega) with z | z | z | z <;> rw [z]
       · exact ⟨_,rfl,by omega⟩
       · exact ⟨_,rfl,by omega⟩
       · exact ⟨_,rfl,by omega⟩
       · exact ⟨_,rfl,by omega⟩
     refine ixL ah hpl ?_
     have s14:=Same.new (.lst [V.int (-1),V.int m,V.int (m + aw),V.int (-1 - aw)]) nr1
     have s914:=s913.trans s14
     replace eb1:=s14 _ _ eb1
     replace eb2:=s14 _ _ eb2
     replace elb:=s14 _ _ elb
     generalize upd H13 r1 (.lst [V.int (-1),V.int m,V.int (m + aw),V.int (-1 - aw)])=H14 at s914 eb1 eb2 elb ⊢
     clear s913 s14 s911 hpl
     refine k3 _ _ (bo fun M4 k4=>?_)
     walk_at "rd"
     refine ⟨by omega,by omega,?_⟩
     have W14:=W9.same s914
     have ex14:=s914 _ _ ex9
     have ey14:=s914 _ _ ey9
     have f114:=s914 _ _ f1
     have f214:=s914 _ _ f2
     have f314:=s914 _ _ f3
     have x1:xs.length≤1000:=by omega
     have y1:ys.length≤1000:=by omega
     refine lW (fun j σ H15=>Same H14 H15∧∃ (v14 v15 v16 v17:Option V),σ=[some (V.ref a),some (V.int m),some (V.ref l),some (V.ref x),some (V.int b),some (V.ref lx),some (V.ref ly),some (V.int e),some (V.ref q1),some (V.ref q2),some (V.ref q3),some (V.int (0 + (i:Int))),some (V.ref lb),some (V.int pl),v14,v15,v16,v17]) ⟨Same.refl _,_,_,_,_,rfl⟩ ?_ ?_
     · rintro j σ H15 N2 B2 hB2 hN2 hj ⟨s15,w14,w15,w16,w17,rfl⟩
       obtain ⟨so,hso⟩:∃ so,(0:Int) + (j:Int)=so:=⟨_,rfl⟩
       have so0:0≤so:=by omega
       refine hB2 _ _ (bo fun L1 g1=>?_)
       rw [hso]
       walk_at "rd"
       refine ixL (s15 _ _ elb) rfl ⟨aD (by simp),fun ls nls=>⟨⟨_,SqL.of ah⟩,?_⟩⟩
       have s16:=Same.new (.lst [V.ref b2,V.ref ly]) nls
       have els:upd H15 ls (.lst [V.ref b2,V.ref ly]) ls=some (.lst [V.ref b2,V.ref ly]):=ah
       have s1416:=s15.trans s16
       generalize upd H15 ls (.lst [V.ref b2,V.ref ly])=H16 at s1416 els ⊢
       refine jm (K:=K) (xs:=[V.ref b2,V.ref ly]) (fun j2 σ H17=>Same H16 H17∧∃ (v15:Option V),σ=[some (V.ref a),some (V.int m),some (V.ref l),some (V.ref x),some (V.int b),some (V.ref lx),some (V.ref ly),some (V.int e),some (V.ref q1),some (V.ref q2),some (V.ref q3),some (V.int (0 + (i:Int))),some (V.ref lb),some (V.int pl),some (V.int so),v15,w16,w17]) ⟨Same.refl _,_,rfl⟩ (fun j2 σ H17 _ z=>SqL.of (z.1 _ _ els)) ?_ ?_
       · rintro j2 y σ H17 N3 B3 hB3 hN3 hy ⟨s17,v15,rfl⟩
         have s1417:=s1416.trans s17
         obtain ⟨sm,zs,rfl,esm,zb⟩:∃ (sm:Addr) (zs:List Int),y=.ref sm∧H14 sm=some (.lst (zs.map V.int))∧zs.length≤1000:=by
           match j2,hy with
           | 0,hy=>cases hy; exact ⟨b2,_,rfl,eb2,ub2⟩
           | 1,hy=>cases hy; exact ⟨ly,_,rfl,ey14,y1⟩
           | j2 + 2,hy=>cases hy
         refine hB3 _ _ ?_
         walk_at "rd"
         refine ixL (s1417 _ _ elb) rfl ⟨x,b1,sm,tw,true,true,m,ps,rs,us,zs,pl,so,rfl,W14.same s1417,s1417 _ _ eb1,ub1,s1417 _ _ esm,zb,so0,fun lk H18 nlk s18 elk=>?_⟩
         refine oh elk ((s1417.trans s18) _ _ f114) (kd1 nf1) ⟨_,rfl,?_⟩
         rw [if_neg (by decide)]
         exact hN3 _ _ ⟨s17.trans s18,_,rfl⟩
       · rintro B3 σ H17 hB3 ⟨s17,v15,rfl⟩
         refine hB3 _ _ (g1 _ _ (bo fun L2 g2=>?_))
         have s1417:=s1416.trans s17
         walk_at "rd"
         refine ixL (s1417 _ _ elb) rfl ⟨x,lx,b2,tw,true,true,m,ps,rs,xs,ws,pl,so,rfl,W14.same s1417,s1417 _ _ ex14,x1,s1417 _ _ eb2,ub2,so0,fun lk H18 nlk s18 elk=>?_⟩
         have s1418:=s1417.trans s18
         refine oh elk (s1418 _ _ f214) (kd2 fx nf2) ⟨_,rfl,?_⟩
         rw [if_neg (by decide)]
         refine g2 _ _ (bo fun L3 g3=>?_)
         walk_at "rd"
         refine ⟨x,lx,ly,tw,true,true,m,ps,rs,xs,ys,pl,so,rfl,W14.same s1418,s1418 _ _ ex14,x1,s1418 _ _ ey14,y1,so0,fun lt H19 nlt s19 elt=>g3 _ _ ?_⟩
         have s1419:=s1418.trans s19
         walk_at "rd"
         by_cases z:so < 2
         · rw [if_pos z]
           refine oh elt (s1419 _ _ f314) (kd3 fx fy z npl) ⟨_,rfl,?_⟩
           rw [if_neg (by decide)]
           exact hN2 _ _ ⟨s1419,_,_,_,_,rfl⟩
         · rw [if_neg z]
           exact hN2 _ _ ⟨s1419,_,_,_,_,rfl⟩
     · rintro B2 σ H15 hB2 ⟨s15,w14,w15,w16,w17,rfl⟩
       refine hB2 _ _ (k4 _ _ (bo fun L1 g1=>?_))
       walk_at "rd"
       have r0:=Int.emod_nonneg (e / 6) (Int.ne_of_gt mp)
       have r1':=Int.emod_lt_of_pos (e / 6) mp
       refine ⟨⟨by decide,by decide⟩,mp,g1 _ _ ?_⟩
       generalize e / 6 % m=r at r0 r1' ⊢
       walk_at "rd"
       refine ⟨by decide,x,lx,ly,tw,true,true,m,ps,rs,xs,ys,r,_,rfl,W14.same s15,s15 _ _ ex14,x1,s15 _ _ ey14,y1,by omega,fun lk H18 nlk s18 elk=>⟨aD (by simp),fun le nle=>?_⟩⟩
       have s19:=Same.new (.lst []) nle
       refine oh (cs:=[]) (s19 _ _ elk) ah (kd4 fx fy ⟨r0,r1'⟩) ⟨_,rfl,?_⟩
       rw [if_neg (by decide)]
       exact hN _ _ ⟨s914.trans (s15.trans (s18.trans s19)),e,_,_,_,_,_,_,_,e0,rfl⟩
   · rintro BB σ H10 hBB ⟨s10,c,v11,v12,v13,v14,v15,v16,v17,cc0,rfl⟩
     refine hBB _ _ (h11 _ _ ?_)
     walk_at "rd"
     exact k _
end
theorem Bn:aL CX0:=fun _ _ _ _ _ h=>h
theorem all_mk {l:PySem.W.OpenLaw} {w:World} {K:PySem.W.Frag} {h:Heap} {mg:Str→Option Value} {fa:Addr} {C_TollError:Addr} {C_BadWeb:Addr} {C_NoPlace:Addr} {C_NoRoad:Addr} {C_BadLaying:Addr} {C_BadWish:Addr} {C_BadStep:Addr} {C_Web:Addr} {xc_TollError:Value} {xd_TollError:Option Addr} {xk_TollError:ClassData} {xs_TollError:Array (Option Value)} {xc_BadWeb:Value} {xd_BadWeb:Option Addr} {xk_BadWeb:ClassData} {xs_BadWeb:Array (Option Value)} {xc_NoPlace:Value} {xd_NoPlace:Option Addr} {xk_NoPlace:ClassData} {xs_NoPlace:Array (Option Value)} {qn_NoPlace qq_NoPlace:Str} {qN_NoPlace:Addr} {qb_NoPlace qm_NoPlace:List Value} {qh_NoPlace:Bool} {qs_NoPlace:List Str} {qu_NoPlace:List Value} {qa_NoPlace:Bool} {qc_NoPlace:Option Bool} {qd_NoPlace:Option Addr} {q0_NoPlace q1_NoPlace q2_NoPlace q3_NoPlace q5_NoPlace:Option Value} {xc_NoRoad:Value} {xd_NoRoad:Option Addr} {xk_NoRoad:ClassData} {xs_NoRoad:Array (Option Value)} {qn_NoRoad qq_NoRoad:Str} {qN_NoRoad:Addr} {qb_NoRoad qm_NoRoad:List Value} {qh_NoRoad:Bool} {qs_NoRoad:List Str} {qu_NoRoad:List Value} {qa_NoRoad:Bool} {qc_NoRoad:Option Bool} {qd_NoRoad:Option Addr} {q0_NoRoad q1_NoRoad q2_NoRoad q3_NoRoad q5_NoRoad:Option Value} {xc_BadLaying:Value} {xd_BadLaying:Option Addr} {xk_BadLaying:ClassData} {xs_BadLaying:Array (Option Value)} {qn_BadLaying qq_BadLaying:Str} {qN_BadLaying:Addr} {qb_BadLaying qm_BadLaying:List Value} {qh_BadLaying:Bool} {qs_BadLaying:List Str} {qu_BadLaying:List Value} {qa_BadLaying:Bool} {qc_BadLaying:Option Bool} {qd_BadLaying:Option Addr} {q0_BadLaying q1_BadLaying q2_BadLaying q3_BadLaying q5_BadLaying:Option Value} {xc_BadWish:Value} {xd_BadWish:Option Addr} {xk_BadWish:ClassData} {xs_BadWish:Array (Option Value)} {qn_BadWish qq_BadWish:Str} {qN_BadWish:Addr} {qb_BadWish qm_BadWish:List Value} {qh_BadWish:Bool} {qs_BadWish:List Str} {qu_BadWish:List Value} {qa_BadWish:Bool} {qc_BadWish:Option Bool} {qd_BadWish:Option Addr} {q0_BadWish q1_BadWish q2_BadWish q3_BadWish q5_BadWish:Option Value} {xc_BadStep:Value} {xd_BadStep:Option Addr} {xk_BadStep:ClassData} {xs_BadStep:Array (Option Value)} {qn_BadStep qq_BadStep:Str} {qN_BadStep:Addr} {qb_BadStep qm_BadStep:List Value} {qh_BadStep:Bool} {qs_BadStep:List Str} {qu_BadStep:List Value} {qa_BadStep:Bool} {qc_BadStep:Option Bool} {qd_BadStep:Option Addr} {q0_BadStep q1_BadStep q2_BadStep q3_BadStep q5_BadStep:Option Value} {f_check_counts:Addr} {od_check_counts an_check_counts:Option Addr} {sl_check_counts:Array (Option Value)} {oc_check_counts kV_check_counts dc_check_counts pm_check_counts cd_check_counts ct_check_counts:Value} {f_is_place:Addr} {od_is_place an_is_place:Option Addr} {sl_is_place:Array (Option Value)} {oc_is_place kV_is_place dc_is_place pm_is_place cd_is_place ct_is_place:Value} {f_check_ends:Addr} {od_check_ends an_check_ends:Option Addr} {sl_check_ends:Array (Option Value)} {oc_check_ends kV_check_ends dc_check_ends pm_check_ends cd_check_ends ct_check_ends:Value} {f_other_ends:Addr} {od_other_ends an_other_ends:Option Addr} {sl_other_ends:Array (Option Value)} {oc_other_ends kV_other_ends dc_other_ends pm_other_ends cd_other_ends ct_other_ends:Value} {f_check_joined:Addr} {od_check_joined an_check_joined:Option Addr} {sl_check_joined:Array (Option Value)} {oc_check_joined kV_check_joined dc_check_joined pm_check_joined cd_check_joined ct_check_joined:Value} {f_check_tolls:Addr} {od_check_tolls an_check_tolls:Option Addr} {sl_check_tolls:Array (Option Value)} {oc_check_tolls kV_check_tolls dc_check_tolls pm_check_tolls cd_check_tolls ct_check_tolls:Value} {f_Web___init__:Addr} {od_Web___init__ an_Web___init__:Option Addr} {sl_Web___init__:Array (Option Value)} {oc_Web___init__ kV_Web___init__ dc_Web___init__ pm_Web___init__ cd_Web___init__ ct_Web___init__:Value} {f_law_drawn:Addr} {od_law_drawn an_law_drawn:Option Addr} {sl_law_drawn:Array (Option Value)} {oc_law_drawn kV_law_drawn dc_law_drawn pm_law_drawn cd_law_drawn ct_law_drawn:Value} {f_law_bound:Addr} {od_law_bound an_law_bound:Option Addr} {sl_law_bound:Array (Option Value)} {oc_law_bound kV_law_bound dc_law_bound pm_law_bound cd_law_bound ct_law_bound:Value} {f_check_place:Addr} {od_check_place an_check_place:Option Addr} {sl_check_place:Array (Option Value)} {oc_check_place kV_check_place dc_check_place pm_check_place cd_check_place ct_check_place:Value} {f_toll:Addr} {od_toll an_toll:Option Addr} {sl_toll:Array (Option Value)} {oc_toll kV_toll dc_toll pm_toll cd_toll ct_toll:Value} {f_handed_on:Addr} {od_handed_on an_handed_on:Option Addr} {sl_handed_on:Array (Option Value)} {oc_handed_on kV_handed_on dc_handed_on pm_handed_on cd_handed_on ct_handed_on:Value} {f_neighbours:Addr} {od_neighbours an_neighbours:Option Addr} {sl_neighbours:Array (Option Value)} {oc_neighbours kV_neighbours dc_neighbours pm_neighbours cd_neighbours ct_neighbours:Value} {f_kids:Addr} {od_kids an_kids:Option Addr} {sl_kids:Array (Option Value)} {oc_kids kV_kids dc_kids pm_kids cd_kids ct_kids:Value} {f_ahead:Addr} {od_ahead an_ahead:Option Addr} {sl_ahead:Array (Option Value)} {oc_ahead kV_ahead dc_ahead pm_ahead cd_ahead ct_ahead:Value} {f_down:Addr} {od_down an_down:Option Addr} {sl_down:Array (Option Value)} {oc_down kV_down dc_down pm_down cd_down ct_down:Value} {f_inward:Addr} {od_inward an_inward:Option Addr} {sl_inward:Array (Option Value)} {oc_inward kV_inward dc_inward pm_inward cd_inward ct_inward:Value} {f_is_filled:Addr} {od_is_filled an_is_filled:Option Addr} {sl_is_filled:Array (Option Value)} {oc_is_filled kV_is_filled dc_is_filled pm_is_filled cd_is_filled ct_is_filled:Value} {f_laying_of:Addr} {od_laying_of an_laying_of:Option Addr} {sl_laying_of:Array (Option Value)} {oc_laying_of kV_laying_of dc_laying_of pm_laying_of cd_laying_of ct_laying_of:Value} {f_wish_of:Addr} {od_wish_of an_wish_of:Option Addr} {sl_wish_of:Array (Option Value)} {oc_wish_of kV_wish_of dc_wish_of pm_wish_of cd_wish_of ct_wish_of:Value} {f_standings:Addr} {od_standings an_standings:Option Addr} {sl_standings:Array (Option Value)} {oc_standings kV_standings dc_standings pm_standings cd_standings ct_standings:Value} {f_standing:Addr} {od_standing an_standing:Option Addr} {sl_standing:Array (Option Value)} {oc_standing kV_standing dc_standing pm_standing cd_standing ct_standing:Value} {f_is_met:Addr} {od_is_met an_is_met:Option Addr} {sl_is_met:Array (Option Value)} {oc_is_met kV_is_met dc_is_met pm_is_met cd_is_met ct_is_met:Value} {f_lacks_of:Addr} {od_lacks_of an_lacks_of:Option Addr} {sl_lacks_of:Array (Option Value)} {oc_lacks_of kV_lacks_of dc_lacks_of pm_lacks_of cd_lacks_of ct_lacks_of:Value} {f_covers:Addr} {od_covers an_covers:Option Addr} {sl_covers:Array (Option Value)} {oc_covers kV_covers dc_covers pm_covers cd_covers ct_covers:Value} {f_BadStep___init__:Addr} {od_BadStep___init__ an_BadStep___init__:Option Addr} {sl_BadStep___init__:Array (Option Value)} {oc_BadStep___init__ kV_BadStep___init__ dc_BadStep___init__ pm_BadStep___init__ cd_BadStep___init__ ct_BadStep___init__:Value} {f_taken:Addr} {od_taken an_taken:Option Addr} {sl_taken:Array (Option Value)} {oc_taken kV_taken dc_taken pm_taken cd_taken ct_taken:Value} {f_behind:Addr} {od_behind an_behind:Option Addr} {sl_behind:Array (Option Value)} {oc_behind kV_behind dc_behind pm_behind cd_behind ct_behind:Value} {f_is_step:Addr} {od_is_step an_is_step:Option Addr} {sl_is_step:Array (Option Value)} {oc_is_step kV_is_step dc_is_step pm_is_step cd_is_step ct_is_step:Value} {f_can_be_done:Addr} {od_can_be_done an_can_be_done:Option Addr} {sl_can_be_done:Array (Option Value)} {oc_can_be_done kV_can_be_done dc_can_be_done pm_can_be_done cd_can_be_done ct_can_be_done:Value} {f_layings:Addr} {od_layings an_layings:Option Addr} {sl_layings:Array (Option Value)} {oc_layings kV_layings dc_layings pm_layings cd_layings ct_layings:Value} {f_walked:Addr} {od_walked an_walked:Option Addr} {sl_walked:Array (Option Value)} {oc_walked kV_walked dc_walked pm_walked cd_walked ct_walked:Value} {f_lead_to:Addr} {od_lead_to an_lead_to:Option Addr} {sl_lead_to:Array (Option Value)} {oc_lead_to kV_lead_to dc_lead_to pm_lead_to cd_lead_to ct_lead_to:Value} {f_judged:Addr} {od_judged an_judged:Option Addr} {sl_judged:Array (Option Value)} {oc_judged kV_judged dc_judged pm_judged cd_judged ct_judged:Value} {f_steps_in:Addr} {od_steps_in an_steps_in:Option Addr} {sl_steps_in:Array (Option Value)} {oc_steps_in kV_steps_in dc_steps_in pm_steps_in cd_steps_in ct_steps_in:Value} {f_steps_out:Addr} {od_steps_out an_steps_out:Option Addr} {sl_steps_out:Array (Option Value)} {oc_steps_out kV_steps_out dc_steps_out pm_steps_out cd_steps_out ct_steps_out:Value} {f_meeting:Addr} {od_meeting an_meeting:Option Addr} {sl_meeting:Array (Option Value)} {oc_meeting kV_meeting dc_meeting pm_meeting cd_meeting ct_meeting:Value} {f_law_asked:Addr} {od_law_asked an_law_asked:Option Addr} {sl_law_asked:Array (Option Value)} {oc_law_asked kV_law_asked dc_law_asked pm_law_asked cd_law_asked ct_law_asked:Value} {f_law_kinds:Addr} {od_law_kinds an_law_kinds:Option Addr} {sl_law_kinds:Array (Option Value)} {oc_law_kinds kV_law_kinds dc_law_kinds pm_law_kinds cd_law_kinds ct_law_kinds:Value} {f_law_laying:Addr} {od_law_laying an_law_laying:Option Addr} {sl_law_laying:Array (Option Value)} {oc_law_laying kV_law_laying dc_law_laying pm_law_laying cd_law_laying ct_law_laying:Value} {f_law_spoilt:Addr} {od_law_spoilt an_law_spoilt:Option Addr} {sl_law_spoilt:Array (Option Value)} {oc_law_spoilt kV_law_spoilt dc_law_spoilt pm_law_spoilt cd_law_spoilt ct_law_spoilt:Value} {f_law_toll:Addr} {od_law_toll an_law_toll:Option Addr} {sl_law_toll:Array (Option Value)} {oc_law_toll kV_law_toll dc_law_toll pm_law_toll cd_law_toll ct_law_toll:Value} {f_law_roads:Addr} {od_law_roads an_law_roads:Option Addr} {sl_law_roads:Array (Option Value)} {oc_law_roads kV_law_roads dc_law_roads pm_law_roads cd_law_roads ct_law_roads:Value} {f_law_web:Addr} {od_law_web an_law_web:Option Addr} {sl_law_web:Array (Option Value)} {oc_law_web kV_law_web dc_law_web pm_law_web cd_law_web ct_law_web:Value} {f_law_wish:Addr} {od_law_wish an_law_wish:Option Addr} {sl_law_wish:Array (Option Value)} {oc_law_wish kV_law_wish dc_law_wish pm_law_wish cd_law_wish ct_law_wish:Value} {f_law:Addr} {od_law an_law:Option Addr} {sl_law:Array (Option Value)} {oc_law kV_law dc_law pm_law cd_law ct_law:Value} {t_MOST_PLACES:Tok} {t_LEAST_TOLL:Tok} {t_MOST_TOLL:Tok} (X:K.In h) (G:h.Ns mainGlobals mg) (hfa:mg "law"=some (.ref fa))
   (ac_TollError:PySem.W.nsIn K mainGlobals "TollError"=some (some (.ref C_TollError)))
   (ac_BadWeb:PySem.W.nsIn K mainGlobals "BadWeb"=some (some (.ref C_BadWeb)))
   (ac_NoPlace:PySem.W.nsIn K mainGlobals "NoPlace"=some (some (.ref C_NoPlace)))
   (ac_NoRoad:PySem.W.nsIn K mainGlobals "NoRoad"=some (some (.ref C_NoRoad)))
   (ac_BadLaying:PySem.W.nsIn K mainGlobals "BadLaying"=some (some (.ref C_BadLaying)))
   (ac_BadWish:PySem.W.nsIn K mainGlobals "BadWish"=some (some (.ref C_BadWish)))
   (ac_BadStep:PySem.W.nsIn K mainGlobals "BadStep"=some (some (.ref C_BadStep)))
   (ac_Web:PySem.W.nsIn K mainGlobals "Web"=some (some (.ref C_Web)))
   (xl_TollError:K.lookup C_TollError=some ⟨xc_TollError,xd_TollError,.cls xk_TollError,xs_TollError⟩)
   (xm_TollError:xk_TollError.mro=.ref C_TollError :: bmV)
   (xt_TollError:PySem.W.typeIn K (.ref C_TollError)=some (.type "type"))
   (xg_TollError:PySem.W.findIn K (.ref C_TollError) "__getattribute__"=some (some (.builtin "BaseException.__getattribute__")))
   (xh_TollError:PySem.W.findIn K (.ref C_TollError) "__getattr__"=some none)
   (xo_TollError:PySem.W.findIn K (.ref C_TollError) "__class__"=some (some (.builtin "object.__class__")))
   (xi_TollError:PySem.W.hasDictIn K C_TollError=true)
   (xl_BadWeb:K.lookup C_BadWeb=some ⟨xc_BadWeb,xd_BadWeb,.cls xk_BadWeb,xs_BadWeb⟩)
   (xm_BadWeb:xk_BadWeb.mro=.ref C_BadWeb :: .ref C_TollError :: bmV)
   (xt_BadWeb:PySem.W.typeIn K (.ref C_BadWeb)=some (.type "type"))
   (xg_BadWeb:PySem.W.findIn K (.ref C_BadWeb) "__getattribute__"=some (some (.builtin "BaseException.__getattribute__")))
   (xh_BadWeb:PySem.W.findIn K (.ref C_BadWeb) "__getattr__"=some none)
   (xo_BadWeb:PySem.W.findIn K (.ref C_BadWeb) "__class__"=some (some (.builtin "object.__class__")))
   (xi_BadWeb:PySem.W.hasDictIn K C_BadWeb=true)
   (xl_NoPlace:K.lookup C_NoPlace=some ⟨xc_NoPlace,xd_NoPlace,.cls xk_NoPlace,xs_NoPlace⟩)
   (xm_NoPlace:xk_NoPlace.mro=.ref C_NoPlace :: .ref C_TollError :: bmV)
   (xt_NoPlace:PySem.W.typeIn K (.ref C_NoPlace)=some (.type "type"))
   (xg_NoPlace:PySem.W.findIn K (.ref C_NoPlace) "__getattribute__"=some (some (.builtin "BaseException.__getattribute__")))
   (xh_NoPlace:PySem.W.findIn K (.ref C_NoPlace) "__getattr__"=some none)
   (xo_NoPlace:PySem.W.findIn K (.ref C_NoPlace) "__class__"=some (some (.builtin "object.__class__")))
   (xi_NoPlace:PySem.W.hasDictIn K C_NoPlace=true)
   (xe_NoPlace:(⟨xc_NoPlace,xd_NoPlace,.cls xk_NoPlace,xs_NoPlace⟩:Obj)=excClassObj qn_NoPlace qq_NoPlace C_NoPlace qN_NoPlace qb_NoPlace qm_NoPlace qh_NoPlace qs_NoPlace qu_NoPlace qa_NoPlace qc_NoPlace qd_NoPlace q0_NoPlace q1_NoPlace q2_NoPlace q3_NoPlace q5_NoPlace "ValueError.__new__")
   (xf_NoPlace:PySem.W.nsOkIn K qN_NoPlace=true)
   (xj_NoPlace:PySem.W.nsIn K qN_NoPlace "__init__"=some none)
   (xp_NoPlace:PySem.W.tailIn K bmV qm_NoPlace=true)
   (xl_NoRoad:K.lookup C_NoRoad=some ⟨xc_NoRoad,xd_NoRoad,.cls xk_NoRoad,xs_NoRoad⟩)
   (xm_NoRoad:xk_NoRoad.mro=.ref C_NoRoad :: .ref C_TollError :: bmV)
   (xt_NoRoad:PySem.W.typeIn K (.ref C_NoRoad)=some (.type "type"))
   (xg_NoRoad:PySem.W.findIn K (.ref C_NoRoad) "__getattribute__"=some (some (.builtin "BaseException.__getattribute__")))
   (xh_NoRoad:PySem.W.findIn K (.ref C_NoRoad) "__getattr__"=some none)
   (xo_NoRoad:PySem.W.findIn K (.ref C_NoRoad) "__class__"=some (some (.builtin "object.__class__")))
   (xi_NoRoad:PySem.W.hasDictIn K C_NoRoad=true)
   (xe_NoRoad:(⟨xc_NoRoad,xd_NoRoad,.cls xk_NoRoad,xs_NoRoad⟩:Obj)=excClassObj qn_NoRoad qq_NoRoad C_NoRoad qN_NoRoad qb_NoRoad qm_NoRoad qh_NoRoad qs_NoRoad qu_NoRoad qa_NoRoad qc_NoRoad qd_NoRoad q0_NoRoad q1_NoRoad q2_NoRoad q3_NoRoad q5_NoRoad "ValueError.__new__")
   (xf_NoRoad:PySem.W.nsOkIn K qN_NoRoad=true)
   (xj_NoRoad:PySem.W.nsIn K qN_NoRoad "__init__"=some none)
   (xp_NoRoad:PySem.W.tailIn K bmV qm_NoRoad=true)
   (xl_BadLaying:K.lookup C_BadLaying=some ⟨xc_BadLaying,xd_BadLaying,.cls xk_BadLaying,xs_BadLaying⟩)
   (xm_BadLaying:xk_BadLaying.mro=.ref C_BadLaying :: .ref C_TollError :: bmV)
   (xt_BadLaying:PySem.W.typeIn K (.ref C_BadLaying)=some (.type "type"))
   (xg_BadLaying:PySem.W.findIn K (.ref C_BadLaying) "__getattribute__"=some (some (.builtin "BaseException.__getattribute__")))
   (xh_BadLaying:PySem.W.findIn K (.ref C_BadLaying) "__getattr__"=some none)
   (xo_BadLaying:PySem.W.findIn K (.ref C_BadLaying) "__class__"=some (some (.builtin "object.__class__")))
   (xi_BadLaying:PySem.W.hasDictIn K C_BadLaying=true)
   (xe_BadLaying:(⟨xc_BadLaying,xd_BadLaying,.cls xk_BadLaying,xs_BadLaying⟩:Obj)=excClassObj qn_BadLaying qq_BadLaying C_BadLaying qN_BadLaying qb_BadLaying qm_BadLaying qh_BadLaying qs_BadLaying qu_BadLaying qa_BadLaying qc_BadLaying qd_BadLaying q0_BadLaying q1_BadLaying q2_BadLaying q3_BadLaying q5_BadLaying "ValueError.__new__")
   (xf_BadLaying:PySem.W.nsOkIn K qN_BadLaying=true)
   (xj_BadLaying:PySem.W.nsIn K qN_BadLaying "__init__"=some none)
   (xp_BadLaying:PySem.W.tailIn K bmV qm_BadLaying=true)
   (xl_BadWish:K.lookup C_BadWish=some ⟨xc_BadWish,xd_BadWish,.cls xk_BadWish,xs_BadWish⟩)
   (xm_BadWish:xk_BadWish.mro=.ref C_BadWish :: .ref C_TollError :: bmV)
   (xt_BadWish:PySem.W.typeIn K (.ref C_BadWish)=some (.type "type"))
   (xg_BadWish:PySem.W.findIn K (.ref C_BadWish) "__getattribute__"=some (some (.builtin "BaseException.__getattribute__")))
   (xh_BadWish:PySem.W.findIn K (.ref C_BadWish) "__getattr__"=some none)
   (xo_BadWish:PySem.W.findIn K (.ref C_BadWish) "__class__"=some (some (.builtin "object.__class__")))
   (xi_BadWish:PySem.W.hasDictIn K C_BadWish=true)
   (xe_BadWish:(⟨xc_BadWish,xd_BadWish,.cls xk_BadWish,xs_BadWish⟩:Obj)=excClassObj qn_BadWish qq_BadWish C_BadWish qN_BadWish qb_BadWish qm_BadWish qh_BadWish qs_BadWish qu_BadWish qa_BadWish qc_BadWish qd_BadWish q0_BadWish q1_BadWish q2_BadWish q3_BadWish q5_BadWish "ValueError.__new__")
   (xf_BadWish:PySem.W.nsOkIn K qN_BadWish=true)
   (xj_BadWish:PySem.W.nsIn K qN_BadWish "__init__"=some none)
   (xp_BadWish:PySem.W.tailIn K bmV qm_BadWish=true)
   (xl_BadStep:K.lookup C_BadStep=some ⟨xc_BadStep,xd_BadStep,.cls xk_BadStep,xs_BadStep⟩)
   (xm_BadStep:xk_BadStep.mro=.ref C_BadStep :: .ref C_TollError :: bmV)
   (xt_BadStep:PySem.W.typeIn K (.ref C_BadStep)=some (.type "type"))
   (xg_BadStep:PySem.W.findIn K (.ref C_BadStep) "__getattribute__"=some (some (.builtin "BaseException.__getattribute__")))
   (xh_BadStep:PySem.W.findIn K (.ref C_BadStep) "__getattr__"=some none)
   (xo_BadStep:PySem.W.findIn K (.ref C_BadStep) "__class__"=some (some (.builtin "object.__class__")))
   (xi_BadStep:PySem.W.hasDictIn K C_BadStep=true)
   (xe_BadStep:(⟨xc_BadStep,xd_BadStep,.cls xk_BadStep,xs_BadStep⟩:Obj)=excClassObj qn_BadStep qq_BadStep C_BadStep qN_BadStep qb_BadStep qm_BadStep qh_BadStep qs_BadStep qu_BadStep qa_BadStep qc_BadStep qd_BadStep q0_BadStep q1_BadStep q2_BadStep q3_BadStep q5_BadStep "ValueError.__new__")
   (xf_BadStep:PySem.W.nsOkIn K qN_BadStep=true)
   (xj_BadStep:PySem.W.nsIn K qN_BadStep "__init__"=some (some (.ref f_BadStep___init__)))
   (xp_BadStep:PySem.W.tailIn K bmV qm_BadStep=true)
   (bg_TollError:PySem.W.specialIn K (.ref C_TollError) "__getattribute__"=some (some (.builtin "type.__getattribute__")))
   (br_TollError:PySem.W.readsIn K C_TollError (.type "type")=true)
   (bf_TollError:PySem.W.findCls K (.ref C_TollError) (.type "type") "__init__"=some (.val (.builtin "ValueError.__init__")))
   (ss_BadStep:PySem.W.findIn K (.ref C_BadStep) "__setattr__"=some (some (.builtin "object.__setattr__")))
   (st_BadStep:PySem.W.findIn K (.ref C_BadStep) "at"=some none)
   (xgs:PySem.W.specialIn K (.builtin "object.__class__") "__get__"=some (some (.builtin "getset_descriptor.__get__")))
   (xtk:PySem.W.takesIn K (.builtin "object.__class__")=some true)
   (xnd:[C_TollError,C_BadWeb,C_NoPlace,C_NoRoad,C_BadLaying,C_BadWish,C_BadStep].Nodup)
   (a_check_counts:PySem.W.nsIn K mainGlobals "check_counts"=some (some (.ref f_check_counts)))
   (l_check_counts:K.lookup f_check_counts=some ⟨oc_check_counts,od_check_counts,.func (PySem.W.fnOf "check_counts" "check_counts" (aA bg) (az bg) (aa bg) .none kV_check_counts dc_check_counts pm_check_counts an_check_counts cd_check_counts ct_check_counts),sl_check_counts⟩)
   (c_check_counts:PySem.W.codeIn K cd_check_counts "check_counts"=true)
   (k_check_counts:PySem.W.keepIn K (.ref f_check_counts)=true)
   (a_is_place:PySem.W.nsIn K mainGlobals "is_place"=some (some (.ref f_is_place)))
   (l_is_place:K.lookup f_is_place=some ⟨oc_is_place,od_is_place,.func (PySem.W.fnOf "is_place" "is_place" (aA b8) (az b8) (aa b8) .none kV_is_place dc_is_place pm_is_place an_is_place cd_is_place ct_is_place),sl_is_place⟩)
   (c_is_place:PySem.W.codeIn K cd_is_place "is_place"=true)
   (k_is_place:PySem.W.keepIn K (.ref f_is_place)=true)
   (a_check_ends:PySem.W.nsIn K mainGlobals "check_ends"=some (some (.ref f_check_ends)))
   (l_check_ends:K.lookup f_check_ends=some ⟨oc_check_ends,od_check_ends,.func (PySem.W.fnOf "check_ends" "check_ends" (aA bM) (az bM) (aa bM) .none kV_check_ends dc_check_ends pm_check_ends an_check_ends cd_check_ends ct_check_ends),sl_check_ends⟩)
   (c_check_ends:PySem.W.codeIn K cd_check_ends "check_ends"=true)
   (k_check_ends:PySem.W.keepIn K (.ref f_check_ends)=true)
   (a_other_ends:PySem.W.nsIn K mainGlobals "other_ends"=some (some (.ref f_other_ends)))
   (l_other_ends:K.lookup f_other_ends=some ⟨oc_other_ends,od_other_ends,.func (PySem.W.fnOf "other_ends" "other_ends" (aA bC) (az bC) (aa bC) .none kV_other_ends dc_other_ends pm_other_ends an_other_ends cd_other_ends ct_other_ends),sl_other_ends⟩)
   (c_other_ends:PySem.W.codeIn K cd_other_ends "other_ends"=true)
   (k_other_ends:PySem.W.keepIn K (.ref f_other_ends)=true)
   (a_check_joined:PySem.W.nsIn K mainGlobals "check_joined"=some (some (.ref f_check_joined)))
   (l_check_joined:K.lookup f_check_joined=some ⟨oc_check_joined,od_check_joined,.func (PySem.W.fnOf "check_joined" "check_joined" (aA aN) (az aN) (aa aN) .none kV_check_joined dc_check_joined pm_check_joined an_check_joined cd_check_joined ct_check_joined),sl_check_joined⟩)
   (c_check_joined:PySem.W.codeIn K cd_check_joined "check_joined"=true)
   (k_check_joined:PySem.W.keepIn K (.ref f_check_joined)=true)
   (a_check_tolls:PySem.W.nsIn K mainGlobals "check_tolls"=some (some (.ref f_check_tolls)))
   (l_check_tolls:K.lookup f_check_tolls=some ⟨oc_check_tolls,od_check_tolls,.func (PySem.W.fnOf "check_tolls" "check_tolls" (aA bq) (az bq) (aa bq) .none kV_check_tolls dc_check_tolls pm_check_tolls an_check_tolls cd_check_tolls ct_check_tolls),sl_check_tolls⟩)
   (c_check_tolls:PySem.W.codeIn K cd_check_tolls "check_tolls"=true)
   (k_check_tolls:PySem.W.keepIn K (.ref f_check_tolls)=true)
   (a_Web___init__:PySem.W.findIn K (.ref C_Web) "__init__"=some (some (.ref f_Web___init__)))
   (i_Web___init__:PySem.W.isFn K (.ref f_Web___init__)=true)
   (l_Web___init__:K.lookup f_Web___init__=some ⟨oc_Web___init__,od_Web___init__,.func (PySem.W.fnOf "__init__" "Web.__init__" (aA aM) (az aM) (aa aM) .none kV_Web___init__ dc_Web___init__ pm_Web___init__ an_Web___init__ cd_Web___init__ ct_Web___init__),sl_Web___init__⟩)
   (c_Web___init__:PySem.W.codeIn K cd_Web___init__ "Web.__init__"=true)
   (k_Web___init__:PySem.W.keepIn K (.ref f_Web___init__)=true)
   (a_law_drawn:PySem.W.nsIn K mainGlobals "_law_drawn"=some (some (.ref f_law_drawn)))
   (l_law_drawn:K.lookup f_law_drawn=some ⟨oc_law_drawn,od_law_drawn,.func (PySem.W.fnOf "_law_drawn" "_law_drawn" (aA aU) (az aU) (aa aU) .none kV_law_drawn dc_law_drawn pm_law_drawn an_law_drawn cd_law_drawn ct_law_drawn),sl_law_drawn⟩)
   (c_law_drawn:PySem.W.codeIn K cd_law_drawn "_law_drawn"=true)
   (k_law_drawn:PySem.W.keepIn K (.ref f_law_drawn)=true)
   (a_law_bound:PySem.W.nsIn K mainGlobals "_law_bound"=some (some (.ref f_law_bound)))
   (l_law_bound:K.lookup f_law_bound=some ⟨oc_law_bound,od_law_bound,.func (PySem.W.fnOf "_law_bound" "_law_bound" (aA b7) (az b7) (aa b7) .none kV_law_bound dc_law_bound pm_law_bound an_law_bound cd_law_bound ct_law_bound),sl_law_bound⟩)
   (c_law_bound:PySem.W.codeIn K cd_law_bound "_law_bound"=true)
   (k_law_bound:PySem.W.keepIn K (.ref f_law_bound)=true)
   (a_check_place:PySem.W.nsIn K mainGlobals "check_place"=some (some (.ref f_check_place)))
   (l_check_place:K.lookup f_check_place=some ⟨oc_check_place,od_check_place,.func (PySem.W.fnOf "check_place" "check_place" (aA bi) (az bi) (aa bi) .none kV_check_place dc_check_place pm_check_place an_check_place cd_check_place ct_check_place),sl_check_place⟩)
   (c_check_place:PySem.W.codeIn K cd_check_place "check_place"=true)
   (k_check_place:PySem.W.keepIn K (.ref f_check_place)=true)
   (a_toll:PySem.W.nsIn K mainGlobals "toll"=some (some (.ref f_toll)))
   (l_toll:K.lookup f_toll=some ⟨oc_toll,od_toll,.func (PySem.W.fnOf "toll" "toll" (aA cz) (az cz) (aa cz) .none kV_toll dc_toll pm_toll an_toll cd_toll ct_toll),sl_toll⟩)
   (c_toll:PySem.W.codeIn K cd_toll "toll"=true)
   (k_toll:PySem.W.keepIn K (.ref f_toll)=true)
   (a_handed_on:PySem.W.nsIn K mainGlobals "handed_on"=some (some (.ref f_handed_on)))
   (l_handed_on:K.lookup f_handed_on=some ⟨oc_handed_on,od_handed_on,.func (PySem.W.fnOf "handed_on" "handed_on" (aA bE) (az bE) (aa bE) .none kV_handed_on dc_handed_on pm_handed_on an_handed_on cd_handed_on ct_handed_on),sl_handed_on⟩)
   (c_handed_on:PySem.W.codeIn K cd_handed_on "handed_on"=true)
   (k_handed_on:PySem.W.keepIn K (.ref f_handed_on)=true)
   (a_neighbours:PySem.W.nsIn K mainGlobals "neighbours"=some (some (.ref f_neighbours)))
   (l_neighbours:K.lookup f_neighbours=some ⟨oc_neighbours,od_neighbours,.func (PySem.W.fnOf "neighbours" "neighbours" (aA bA) (az bA) (aa bA) .none kV_neighbours dc_neighbours pm_neighbours an_neighbours cd_neighbours ct_neighbours),sl_neighbours⟩)
   (c_neighbours:PySem.W.codeIn K cd_neighbours "neighbours"=true)
   (k_neighbours:PySem.W.keepIn K (.ref f_neighbours)=true)
   (a_kids:PySem.W.nsIn K mainGlobals "kids"=some (some (.ref f_kids)))
   (l_kids:K.lookup f_kids=some ⟨oc_kids,od_kids,.func (PySem.W.fnOf "kids" "kids" (aA cY) (az cY) (aa cY) .none kV_kids dc_kids pm_kids an_kids cd_kids ct_kids),sl_kids⟩)
   (c_kids:PySem.W.codeIn K cd_kids "kids"=true)
   (k_kids:PySem.W.keepIn K (.ref f_kids)=true)
   (a_ahead:PySem.W.nsIn K mainGlobals "ahead"=some (some (.ref f_ahead)))
   (l_ahead:K.lookup f_ahead=some ⟨oc_ahead,od_ahead,.func (PySem.W.fnOf "ahead" "ahead" (aA b4) (az b4) (aa b4) .none kV_ahead dc_ahead pm_ahead an_ahead cd_ahead ct_ahead),sl_ahead⟩)
   (c_ahead:PySem.W.codeIn K cd_ahead "ahead"=true)
   (k_ahead:PySem.W.keepIn K (.ref f_ahead)=true)
   (a_down:PySem.W.nsIn K mainGlobals "down"=some (some (.ref f_down)))
   (l_down:K.lookup f_down=some ⟨oc_down,od_down,.func (PySem.W.fnOf "down" "down" (aA cw) (az cw) (aa cw) .none kV_down dc_down pm_down an_down cd_down ct_down),sl_down⟩)
   (c_down:PySem.W.codeIn K cd_down "down"=true)
   (k_down:PySem.W.keepIn K (.ref f_down)=true)
   (a_inward:PySem.W.nsIn K mainGlobals "inward"=some (some (.ref f_inward)))
   (l_inward:K.lookup f_inward=some ⟨oc_inward,od_inward,.func (PySem.W.fnOf "inward" "inward" (aA bU) (az bU) (aa bU) .none kV_inward dc_inward pm_inward an_inward cd_inward ct_inward),sl_inward⟩)
   (c_inward:PySem.W.codeIn K cd_inward "inward"=true)
   (k_inward:PySem.W.keepIn K (.ref f_inward)=true)
   (a_is_filled:PySem.W.nsIn K mainGlobals "is_filled"=some (some (.ref f_is_filled)))
   (l_is_filled:K.lookup f_is_filled=some ⟨oc_is_filled,od_is_filled,.func (PySem.W.fnOf "is_filled" "is_filled" (aA bN) (az bN) (aa bN) .none kV_is_filled dc_is_filled pm_is_filled an_is_filled cd_is_filled ct_is_filled),sl_is_filled⟩)
   (c_is_filled:PySem.W.codeIn K cd_is_filled "is_filled"=true)
   (k_is_filled:PySem.W.keepIn K (.ref f_is_filled)=true)
   (a_laying_of:PySem.W.nsIn K mainGlobals "laying_of"=some (some (.ref f_laying_of)))
   (l_laying_of:K.lookup f_laying_of=some ⟨oc_laying_of,od_laying_of,.func (PySem.W.fnOf "laying_of" "laying_of" (aA bD) (az bD) (aa bD) .none kV_laying_of dc_laying_of pm_laying_of an_laying_of cd_laying_of ct_laying_of),sl_laying_of⟩)
   (c_laying_of:PySem.W.codeIn K cd_laying_of "laying_of"=true)
   (k_laying_of:PySem.W.keepIn K (.ref f_laying_of)=true)
   (a_wish_of:PySem.W.nsIn K mainGlobals "wish_of"=some (some (.ref f_wish_of)))
   (l_wish_of:K.lookup f_wish_of=some ⟨oc_wish_of,od_wish_of,.func (PySem.W.fnOf "wish_of" "wish_of" (aA ce) (az ce) (aa ce) .none kV_wish_of dc_wish_of pm_wish_of an_wish_of cd_wish_of ct_wish_of),sl_wish_of⟩)
   (c_wish_of:PySem.W.codeIn K cd_wish_of "wish_of"=true)
   (k_wish_of:PySem.W.keepIn K (.ref f_wish_of)=true)
   (a_standings:PySem.W.nsIn K mainGlobals "standings"=some (some (.ref f_standings)))
   (l_standings:K.lookup f_standings=some ⟨oc_standings,od_standings,.func (PySem.W.fnOf "standings" "standings" (aA aE) (az aE) (aa aE) .none kV_standings dc_standings pm_standings an_standings cd_standings ct_standings),sl_standings⟩)
   (c_standings:PySem.W.codeIn K cd_standings "standings"=true)
   (k_standings:PySem.W.keepIn K (.ref f_standings)=true)
   (a_standing:PySem.W.nsIn K mainGlobals "standing"=some (some (.ref f_standing)))
   (l_standing:K.lookup f_standing=some ⟨oc_standing,od_standing,.func (PySem.W.fnOf "standing" "standing" (aA bJ) (az bJ) (aa bJ) .none kV_standing dc_standing pm_standing an_standing cd_standing ct_standing),sl_standing⟩)
   (c_standing:PySem.W.codeIn K cd_standing "standing"=true)
   (k_standing:PySem.W.keepIn K (.ref f_standing)=true)
   (a_is_met:PySem.W.nsIn K mainGlobals "is_met"=some (some (.ref f_is_met)))
   (l_is_met:K.lookup f_is_met=some ⟨oc_is_met,od_is_met,.func (PySem.W.fnOf "is_met" "is_met" (aA ci) (az ci) (aa ci) .none kV_is_met dc_is_met pm_is_met an_is_met cd_is_met ct_is_met),sl_is_met⟩)
   (c_is_met:PySem.W.codeIn K cd_is_met "is_met"=true)
   (k_is_met:PySem.W.keepIn K (.ref f_is_met)=true)
   (a_lacks_of:PySem.W.nsIn K mainGlobals "lacks_of"=some (some (.ref f_lacks_of)))
   (l_lacks_of:K.lookup f_lacks_of=some ⟨oc_lacks_of,od_lacks_of,.func (PySem.W.fnOf "lacks_of" "lacks_of" (aA bI) (az bI) (aa bI) .none kV_lacks_of dc_lacks_of pm_lacks_of an_lacks_of cd_lacks_of ct_lacks_of),sl_lacks_of⟩)
   (c_lacks_of:PySem.W.codeIn K cd_lacks_of "lacks_of"=true)
   (k_lacks_of:PySem.W.keepIn K (.ref f_lacks_of)=true)
   (a_covers:PySem.W.nsIn K mainGlobals "covers"=some (some (.ref f_covers)))
   (l_covers:K.lookup f_covers=some ⟨oc_covers,od_covers,.func (PySem.W.fnOf "covers" "covers" (aA cG) (az cG) (aa cG) .none kV_covers dc_covers pm_covers an_covers cd_covers ct_covers),sl_covers⟩)
   (c_covers:PySem.W.codeIn K cd_covers "covers"=true)
   (k_covers:PySem.W.keepIn K (.ref f_covers)=true)
   (a_BadStep___init__:PySem.W.findIn K (.ref C_BadStep) "__init__"=some (some (.ref f_BadStep___init__)))
   (i_BadStep___init__:PySem.W.isFn K (.ref f_BadStep___init__)=true)
   (l_BadStep___init__:K.lookup f_BadStep___init__=some ⟨oc_BadStep___init__,od_BadStep___init__,.func (PySem.W.fnOf "__init__" "BadStep.__init__" (aA be) (az be) (aa be) .none kV_BadStep___init__ dc_BadStep___init__ pm_BadStep___init__ an_BadStep___init__ cd_BadStep___init__ ct_BadStep___init__),sl_BadStep___init__⟩)
   (c_BadStep___init__:PySem.W.codeIn K cd_BadStep___init__ "BadStep.__init__"=true)
   (k_BadStep___init__:PySem.W.keepIn K (.ref f_BadStep___init__)=true)
   (a_taken:PySem.W.nsIn K mainGlobals "taken"=some (some (.ref f_taken)))
   (l_taken:K.lookup f_taken=some ⟨oc_taken,od_taken,.func (PySem.W.fnOf "taken" "taken" (aA cU) (az cU) (aa cU) .none kV_taken dc_taken pm_taken an_taken cd_taken ct_taken),sl_taken⟩)
   (c_taken:PySem.W.codeIn K cd_taken "taken"=true)
   (k_taken:PySem.W.keepIn K (.ref f_taken)=true)
   (a_behind:PySem.W.nsIn K mainGlobals "behind"=some (some (.ref f_behind)))
   (l_behind:K.lookup f_behind=some ⟨oc_behind,od_behind,.func (PySem.W.fnOf "behind" "behind" (aA b9) (az b9) (aa b9) .none kV_behind dc_behind pm_behind an_behind cd_behind ct_behind),sl_behind⟩)
   (c_behind:PySem.W.codeIn K cd_behind "behind"=true)
   (k_behind:PySem.W.keepIn K (.ref f_behind)=true)
   (a_is_step:PySem.W.nsIn K mainGlobals "is_step"=some (some (.ref f_is_step)))
   (l_is_step:K.lookup f_is_step=some ⟨oc_is_step,od_is_step,.func (PySem.W.fnOf "is_step" "is_step" (aA cm) (az cm) (aa cm) .none kV_is_step dc_is_step pm_is_step an_is_step cd_is_step ct_is_step),sl_is_step⟩)
   (c_is_step:PySem.W.codeIn K cd_is_step "is_step"=true)
   (k_is_step:PySem.W.keepIn K (.ref f_is_step)=true)
   (a_can_be_done:PySem.W.nsIn K mainGlobals "can_be_done"=some (some (.ref f_can_be_done)))
   (l_can_be_done:K.lookup f_can_be_done=some ⟨oc_can_be_done,od_can_be_done,.func (PySem.W.fnOf "can_be_done" "can_be_done" (aA bp) (az bp) (aa bp) .none kV_can_be_done dc_can_be_done pm_can_be_done an_can_be_done cd_can_be_done ct_can_be_done),sl_can_be_done⟩)
   (c_can_be_done:PySem.W.codeIn K cd_can_be_done "can_be_done"=true)
   (k_can_be_done:PySem.W.keepIn K (.ref f_can_be_done)=true)
   (a_layings:PySem.W.nsIn K mainGlobals "layings"=some (some (.ref f_layings)))
   (l_layings:K.lookup f_layings=some ⟨oc_layings,od_layings,.func (PySem.W.fnOf "layings" "layings" (aA bu) (az bu) (aa bu) .none kV_layings dc_layings pm_layings an_layings cd_layings ct_layings),sl_layings⟩)
   (c_layings:PySem.W.codeIn K cd_layings "layings"=true)
   (k_layings:PySem.W.keepIn K (.ref f_layings)=true)
   (a_walked:PySem.W.nsIn K mainGlobals "walked"=some (some (.ref f_walked)))
   (l_walked:K.lookup f_walked=some ⟨oc_walked,od_walked,.func (PySem.W.fnOf "walked" "walked" (aA cH) (az cH) (aa cH) .none kV_walked dc_walked pm_walked an_walked cd_walked ct_walked),sl_walked⟩)
   (c_walked:PySem.W.codeIn K cd_walked "walked"=true)
   (k_walked:PySem.W.keepIn K (.ref f_walked)=true)
   (a_lead_to:PySem.W.nsIn K mainGlobals "lead_to"=some (some (.ref f_lead_to)))
   (l_lead_to:K.lookup f_lead_to=some ⟨oc_lead_to,od_lead_to,.func (PySem.W.fnOf "lead_to" "lead_to" (aA bP) (az bP) (aa bP) .none kV_lead_to dc_lead_to pm_lead_to an_lead_to cd_lead_to ct_lead_to),sl_lead_to⟩)
   (c_lead_to:PySem.W.codeIn K cd_lead_to "lead_to"=true)
   (k_lead_to:PySem.W.keepIn K (.ref f_lead_to)=true)
   (a_judged:PySem.W.nsIn K mainGlobals "judged"=some (some (.ref f_judged)))
   (l_judged:K.lookup f_judged=some ⟨oc_judged,od_judged,.func (PySem.W.fnOf "judged" "judged" (aA bT) (az bT) (aa bT) .none kV_judged dc_judged pm_judged an_judged cd_judged ct_judged),sl_judged⟩)
   (c_judged:PySem.W.codeIn K cd_judged "judged"=true)
   (k_judged:PySem.W.keepIn K (.ref f_judged)=true)
   (a_steps_in:PySem.W.nsIn K mainGlobals "steps_in"=some (some (.ref f_steps_in)))
   (l_steps_in:K.lookup f_steps_in=some ⟨oc_steps_in,od_steps_in,.func (PySem.W.fnOf "steps_in" "steps_in" (aA aZ) (az aZ) (aa aZ) .none kV_steps_in dc_steps_in pm_steps_in an_steps_in cd_steps_in ct_steps_in),sl_steps_in⟩)
   (c_steps_in:PySem.W.codeIn K cd_steps_in "steps_in"=true)
   (k_steps_in:PySem.W.keepIn K (.ref f_steps_in)=true)
   (a_steps_out:PySem.W.nsIn K mainGlobals "steps_out"=some (some (.ref f_steps_out)))
   (l_steps_out:K.lookup f_steps_out=some ⟨oc_steps_out,od_steps_out,.func (PySem.W.fnOf "steps_out" "steps_out" (aA aV) (az aV) (aa aV) .none kV_steps_out dc_steps_out pm_steps_out an_steps_out cd_steps_out ct_steps_out),sl_steps_out⟩)
   (c_steps_out:PySem.W.codeIn K cd_steps_out "steps_out"=true)
   (k_steps_out:PySem.W.keepIn K (.ref f_steps_out)=true)
   (a_meeting:PySem.W.nsIn K mainGlobals "meeting"=some (some (.ref f_meeting)))
   (l_meeting:K.lookup f_meeting=some ⟨oc_meeting,od_meeting,.func (PySem.W.fnOf "meeting" "meeting" (aA bS) (az bS) (aa bS) .none kV_meeting dc_meeting pm_meeting an_meeting cd_meeting ct_meeting),sl_meeting⟩)
   (c_meeting:PySem.W.codeIn K cd_meeting "meeting"=true)
   (k_meeting:PySem.W.keepIn K (.ref f_meeting)=true)
   (a_law_asked:PySem.W.nsIn K mainGlobals "_law_asked"=some (some (.ref f_law_asked)))
   (l_law_asked:K.lookup f_law_asked=some ⟨oc_law_asked,od_law_asked,.func (PySem.W.fnOf "_law_asked" "_law_asked" (aA bc) (az bc) (aa bc) .none kV_law_asked dc_law_asked pm_law_asked an_law_asked cd_law_asked ct_law_asked),sl_law_asked⟩)
   (c_law_asked:PySem.W.codeIn K cd_law_asked "_law_asked"=true)
   (k_law_asked:PySem.W.keepIn K (.ref f_law_asked)=true)
   (a_law_kinds:PySem.W.nsIn K mainGlobals "_law_kinds"=some (some (.ref f_law_kinds)))
   (l_law_kinds:K.lookup f_law_kinds=some ⟨oc_law_kinds,od_law_kinds,.func (PySem.W.fnOf "_law_kinds" "_law_kinds" (aA aH) (az aH) (aa aH) .none kV_law_kinds dc_law_kinds pm_law_kinds an_law_kinds cd_law_kinds ct_law_kinds),sl_law_kinds⟩)
   (c_law_kinds:PySem.W.codeIn K cd_law_kinds "_law_kinds"=true)
   (k_law_kinds:PySem.W.keepIn K (.ref f_law_kinds)=true)
   (a_law_laying:PySem.W.nsIn K mainGlobals "_law_laying"=some (some (.ref f_law_laying)))
   (l_law_laying:K.lookup f_law_laying=some ⟨oc_law_laying,od_law_laying,.func (PySem.W.fnOf "_law_laying" "_law_laying" (aA aW) (az aW) (aa aW) .none kV_law_laying dc_law_laying pm_law_laying an_law_laying cd_law_laying ct_law_laying),sl_law_laying⟩)
   (c_law_laying:PySem.W.codeIn K cd_law_laying "_law_laying"=true)
   (k_law_laying:PySem.W.keepIn K (.ref f_law_laying)=true)
   (a_law_spoilt:PySem.W.nsIn K mainGlobals "_law_spoilt"=some (some (.ref f_law_spoilt)))
   (l_law_spoilt:K.lookup f_law_spoilt=some ⟨oc_law_spoilt,od_law_spoilt,.func (PySem.W.fnOf "_law_spoilt" "_law_spoilt" (aA bz) (az bz) (aa bz) .none kV_law_spoilt dc_law_spoilt pm_law_spoilt an_law_spoilt cd_law_spoilt ct_law_spoilt),sl_law_spoilt⟩)
   (c_law_spoilt:PySem.W.codeIn K cd_law_spoilt "_law_spoilt"=true)
   (k_law_spoilt:PySem.W.keepIn K (.ref f_law_spoilt)=true)
   (a_law_toll:PySem.W.nsIn K mainGlobals "_law_toll"=some (some (.ref f_law_toll)))
   (l_law_toll:K.lookup f_law_toll=some ⟨oc_law_toll,od_law_toll,.func (PySem.W.fnOf "_law_toll" "_law_toll" (aA cN) (az cN) (aa cN) .none kV_law_toll dc_law_toll pm_law_toll an_law_toll cd_law_toll ct_law_toll),sl_law_toll⟩)
   (c_law_toll:PySem.W.codeIn K cd_law_toll "_law_toll"=true)
   (k_law_toll:PySem.W.keepIn K (.ref f_law_toll)=true)
   (a_law_roads:PySem.W.nsIn K mainGlobals "_law_roads"=some (some (.ref f_law_roads)))
   (l_law_roads:K.lookup f_law_roads=some ⟨oc_law_roads,od_law_roads,.func (PySem.W.fnOf "_law_roads" "_law_roads" (aA aR) (az aR) (aa aR) .none kV_law_roads dc_law_roads pm_law_roads an_law_roads cd_law_roads ct_law_roads),sl_law_roads⟩)
   (c_law_roads:PySem.W.codeIn K cd_law_roads "_law_roads"=true)
   (k_law_roads:PySem.W.keepIn K (.ref f_law_roads)=true)
   (a_law_web:PySem.W.nsIn K mainGlobals "_law_web"=some (some (.ref f_law_web)))
   (l_law_web:K.lookup f_law_web=some ⟨oc_law_web,od_law_web,.func (PySem.W.fnOf "_law_web" "_law_web" (aA b3) (az b3) (aa b3) .none kV_law_web dc_law_web pm_law_web an_law_web cd_law_web ct_law_web),sl_law_web⟩)
   (c_law_web:PySem.W.codeIn K cd_law_web "_law_web"=true)
   (k_law_web:PySem.W.keepIn K (.ref f_law_web)=true)
   (a_law_wish:PySem.W.nsIn K mainGlobals "_law_wish"=some (some (.ref f_law_wish)))
   (l_law_wish:K.lookup f_law_wish=some ⟨oc_law_wish,od_law_wish,.func (PySem.W.fnOf "_law_wish" "_law_wish" (aA bw) (az bw) (aa bw) .none kV_law_wish dc_law_wish pm_law_wish an_law_wish cd_law_wish ct_law_wish),sl_law_wish⟩)
   (c_law_wish:PySem.W.codeIn K cd_law_wish "_law_wish"=true)
   (k_law_wish:PySem.W.keepIn K (.ref f_law_wish)=true)
   (a_law:PySem.W.nsIn K mainGlobals "law"=some (some (.ref f_law)))
   (l_law:K.lookup f_law=some ⟨oc_law,od_law,.func (PySem.W.fnOf "law" "law" (aA bd) (az bd) (aa bd) .none kV_law dc_law pm_law an_law cd_law ct_law),sl_law⟩)
   (c_law:PySem.W.codeIn K cd_law "law"=true)
   (k_law:PySem.W.keepIn K (.ref f_law)=true)
   (pg_Web:PySem.W.plainGet K C_Web Str.empty=true)
   (hd_Web:PySem.W.hasDictIn K C_Web=true)
   (po_Web:PySem.W.plainOver K C_Web=true)
   (sa_Web:PySem.W.findIn K (.ref C_Web) "__setattr__"=some (some (.builtin "object.__setattr__")))
   (mk_Web:PySem.W.makesIn K C_Web=true)
   (kc_Web:PySem.W.keepIn K (.ref C_Web)=true)
   (nm_Web:PySem.W.findIn K (.ref C_Web) "many"=some none)
   (nr_Web:PySem.W.findIn K (.ref C_Web) "roads"=some none)
   (z_range:PySem.W.nsIn K mainGlobals "range"=some none)
   (z_zip:PySem.W.nsIn K mainGlobals "zip"=some none)
   (z_len:PySem.W.nsIn K mainGlobals "len"=some none)
   (z_isinstance:PySem.W.nsIn K mainGlobals "isinstance"=some none)
   (z_all:PySem.W.nsIn K mainGlobals "all"=some none)
   (z_any:PySem.W.nsIn K mainGlobals "any"=some none)
   (z_int:PySem.W.nsIn K mainGlobals "int"=some none)
   (z_tuple:PySem.W.nsIn K mainGlobals "tuple"=some none)
   (z_list:PySem.W.nsIn K mainGlobals "list"=some none)
   (z_reversed:PySem.W.nsIn K mainGlobals "reversed"=some none)
   (z_sorted:PySem.W.nsIn K mainGlobals "sorted"=some none)
   (z_min:PySem.W.nsIn K mainGlobals "min"=some none)
   (z_enumerate:PySem.W.nsIn K mainGlobals "enumerate"=some none)
   (z_str:PySem.W.nsIn K mainGlobals "str"=some none)
   (z_ValueError:PySem.W.nsIn K mainGlobals "ValueError"=some none)
   (v_MOST_PLACES:PySem.W.nsIn K mainGlobals "MOST_PLACES"=some (some (.int 24 t_MOST_PLACES)))
   (v_LEAST_TOLL:PySem.W.nsIn K mainGlobals "LEAST_TOLL"=some (some (.int 2 t_LEAST_TOLL)))
   (v_MOST_TOLL:PySem.W.nsIn K mainGlobals "MOST_TOLL"=some (some (.int 1000000 t_MOST_TOLL))) :
   ∃ fd:FuncData,(∀ (s:Shared) (v:Value),BindsTo s fd ⟨[v],[]⟩ [("script",v)])∧∀ base:Heap,K.In base→base.Ns mainGlobals mg→FnOk l.prog w K mg base (CXe l.prog w) 14 fa fd ["script"] (og K):=by
 have e:=hfa.symm.trans (PySem.W.mg_of X G a_law)
 cases e
 let T:Txt K mg:=⟨C_TollError,PySem.W.mg_of X G ac_TollError,C_BadWeb,PySem.W.mg_of X G ac_BadWeb,C_NoPlace,PySem.W.mg_of X G ac_NoPlace,C_NoRoad,PySem.W.mg_of X G ac_NoRoad,C_BadLaying,PySem.W.mg_of X G ac_BadLaying,C_BadWish,PySem.W.mg_of X G ac_BadWish,C_BadStep,PySem.W.mg_of X G ac_BadStep,C_Web,PySem.W.mg_of X G ac_Web,yO xt_TollError xg_TollError xh_TollError xo_TollError xgs xtk xi_TollError xl_TollError xm_TollError,f7 xt_BadWeb xg_BadWeb xh_BadWeb xo_BadWeb xgs xtk xi_BadWeb xl_BadWeb xm_BadWeb,f7 xt_NoPlace xg_NoPlace xh_NoPlace xo_NoPlace xgs xtk xi_NoPlace xl_NoPlace xm_NoPlace,jF _ _ _ _ _ _ _ _ _ _ _ _ _ _ _ _ xl_NoPlace xe_NoPlace xf_NoPlace xj_NoPlace xp_NoPlace,f7 xt_NoRoad xg_NoRoad xh_NoRoad xo_NoRoad xgs xtk xi_NoRoad xl_NoRoad xm_NoRoad,jF _ _ _ _ _ _ _ _ _ _ _ _ _ _ _ _ xl_NoRoad xe_NoRoad xf_NoRoad xj_NoRoad xp_NoRoad,f7 xt_BadLaying xg_BadLaying xh_BadLaying xo_BadLaying xgs xtk xi_BadLaying xl_BadLaying xm_BadLaying,jF _ _ _ _ _ _ _ _ _ _ _ _ _ _ _ _ xl_BadLaying xe_BadLaying xf_BadLaying xj_BadLaying xp_BadLaying,f7 xt_BadWish xg_BadWish xh_BadWish xo_BadWish xgs xtk xi_BadWish xl_BadWish xm_BadWish,jF _ _ _ _ _ _ _ _ _ _ _ _ _ _ _ _ xl_BadWish xe_BadWish xf_BadWish xj_BadWish xp_BadWish,f7 xt_BadStep xg_BadStep xh_BadStep xo_BadStep xgs xtk xi_BadStep xl_BadStep xm_BadStep,⟨bg_TollError,br_TollError,bf_TollError⟩,yY xl_BadStep xm_BadStep xi_BadStep ss_BadStep st_BadStep,st_BadStep,xnd,PySem.W.mg_none_of X G z_range,PySem.W.mg_none_of X G z_zip,PySem.W.mg_none_of X G z_len,PySem.W.mg_none_of X G z_isinstance,PySem.W.mg_none_of X G z_all,PySem.W.mg_none_of X G z_any,PySem.W.mg_none_of X G z_int,PySem.W.mg_none_of X G z_tuple,PySem.W.mg_none_of X G z_list,PySem.W.mg_none_of X G z_reversed,PySem.W.mg_none_of X G z_sorted,PySem.W.mg_none_of X G z_min,PySem.W.mg_none_of X G z_enumerate,PySem.W.mg_none_of X G z_str,PySem.W.mg_none_of X G z_ValueError,⟨_,PySem.W.mg_of X G v_MOST_PLACES⟩,⟨_,PySem.W.mg_of X G v_LEAST_TOLL⟩,⟨_,PySem.W.mg_of X G v_MOST_TOLL⟩,⟨pg_Web,hd_Web,po_Web,sa_Web⟩,nm_Web,nr_Web⟩
 have F_check_counts:=aI (st:=bg) l_check_counts c_check_counts k_check_counts
 have b_check_counts:=F_check_counts.binds (ps:=["many","roads"]) fun _ _ _ _ _ _ us hl=>by obtain ⟨u0,u1,rfl⟩:=us2 hl; rfl
 have D_check_counts:Df K mg "check_counts" bg ["many","roads"] f_check_counts _:=⟨F_check_counts,PySem.W.mg_of X G a_check_counts,b_check_counts⟩
 have F_is_place:=aI (st:=b8) l_is_place c_is_place k_is_place
 have b_is_place:=F_is_place.binds (ps:=["many","number"]) fun _ _ _ _ _ _ us hl=>by obtain ⟨u0,u1,rfl⟩:=us2 hl; rfl
 have D_is_place:Df K mg "is_place" b8 ["many","number"] f_is_place _:=⟨F_is_place,PySem.W.mg_of X G a_is_place,b_is_place⟩
 have F_check_ends:=aI (st:=bM) l_check_ends c_check_ends k_check_ends
 have b_check_ends:=F_check_ends.binds (ps:=["many","road"]) fun _ _ _ _ _ _ us hl=>by obtain ⟨u0,u1,rfl⟩:=us2 hl; rfl
 have D_check_ends:Df K mg "check_ends" bM ["many","road"] f_check_ends _:=⟨F_check_ends,PySem.W.mg_of X G a_check_ends,b_check_ends⟩
 have F_other_ends:=aI (st:=bC) l_other_ends c_other_ends k_other_ends
 have b_other_ends:=F_other_ends.binds (ps:=["roads","place"]) fun _ _ _ _ _ _ us hl=>by obtain ⟨u0,u1,rfl⟩:=us2 hl; rfl
 have D_other_ends:Df K mg "other_ends" bC ["roads","place"] f_other_ends _:=⟨F_other_ends,PySem.W.mg_of X G a_other_ends,b_other_ends⟩
 have F_check_joined:=aI (st:=aN) l_check_joined c_check_joined k_check_joined
 have b_check_joined:=F_check_joined.binds (ps:=["many","roads"]) fun _ _ _ _ _ _ us hl=>by obtain ⟨u0,u1,rfl⟩:=us2 hl; rfl
 have D_check_joined:Df K mg "check_joined" aN ["many","roads"] f_check_joined _:=⟨F_check_joined,PySem.W.mg_of X G a_check_joined,b_check_joined⟩
 have F_check_tolls:=aI (st:=bq) l_check_tolls c_check_tolls k_check_tolls
 have b_check_tolls:=F_check_tolls.binds (ps:=["road"]) fun _ _ _ _ _ _ us hl=>by obtain ⟨u0,rfl⟩:=us1 hl; rfl
 have D_check_tolls:Df K mg "check_tolls" bq ["road"] f_check_tolls _:=⟨F_check_tolls,PySem.W.mg_of X G a_check_tolls,b_check_tolls⟩
 have F_Web___init__:=aI (st:=aM) l_Web___init__ c_Web___init__ k_Web___init__
 have b_Web:=F_Web___init__.binds (ps:=["self","many","roads"]) fun _ _ _ _ _ _ us hl=>by obtain ⟨u0,u1,u2,rfl⟩:=us3 hl; rfl
 have F_law_drawn:=aI (st:=aU) l_law_drawn c_law_drawn k_law_drawn
 have b_law_drawn:=F_law_drawn.binds (ps:=["script","k"]) fun _ _ _ _ _ _ us hl=>by obtain ⟨u0,u1,rfl⟩:=us2 hl; rfl
 have D_law_drawn:Df K mg "_law_drawn" aU ["script","k"] f_law_drawn _:=⟨F_law_drawn,PySem.W.mg_of X G a_law_drawn,b_law_drawn⟩
 have F_law_bound:=aI (st:=b7) l_law_bound c_law_bound k_law_bound
 have b_law_bound:=F_law_bound.binds (ps:=["script"]) fun _ _ _ _ _ _ us hl=>by obtain ⟨u0,rfl⟩:=us1 hl; rfl
 have D_law_bound:Df K mg "_law_bound" b7 ["script"] f_law_bound _:=⟨F_law_bound,PySem.W.mg_of X G a_law_bound,b_law_bound⟩
 have F_check_place:=aI (st:=bi) l_check_place c_check_place k_check_place
 have b_check_place:=F_check_place.binds (ps:=["web","number"]) fun _ _ _ _ _ _ us hl=>by obtain ⟨u0,u1,rfl⟩:=us2 hl; rfl
 have D_check_place:Df K mg "check_place" bi ["web","number"] f_check_place _:=⟨F_check_place,PySem.W.mg_of X G a_check_place,b_check_place⟩
 have F_toll:=aI (st:=cz) l_toll c_toll k_toll
 have b_toll:=F_toll.binds (ps:=["web","a","b"]) fun _ _ _ _ _ _ us hl=>by obtain ⟨u0,u1,u2,rfl⟩:=us3 hl; rfl
 have D_toll:Df K mg "toll" cz ["web","a","b"] f_toll _:=⟨F_toll,PySem.W.mg_of X G a_toll,b_toll⟩
 have F_handed_on:=aI (st:=bE) l_handed_on c_handed_on k_handed_on
 have b_handed_on:=F_handed_on.binds (ps:=["web","over","place","front"]) fun _ _ _ _ _ _ us hl=>by obtain ⟨u0,u1,u2,u3,rfl⟩:=us4 hl; rfl
 have D_handed_on:Df K mg "handed_on" bE ["web","over","place","front"] f_handed_on _:=⟨F_handed_on,PySem.W.mg_of X G a_handed_on,b_handed_on⟩
 have F_neighbours:=aI (st:=bA) l_neighbours c_neighbours k_neighbours
 have b_neighbours:=F_neighbours.binds (ps:=["web","a"]) fun _ _ _ _ _ _ us hl=>by obtain ⟨u0,u1,rfl⟩:=us2 hl; rfl
 have D_neighbours:Df K mg "neighbours" bA ["web","a"] f_neighbours _:=⟨F_neighbours,PySem.W.mg_of X G a_neighbours,b_neighbours⟩
 have F_kids:=aI (st:=cY) l_kids c_kids k_kids
 have b_kids:=F_kids.binds (ps:=["web","place","front"]) fun _ _ _ _ _ _ us hl=>by obtain ⟨u0,u1,u2,rfl⟩:=us3 hl; rfl
 have D_kids:Df K mg "kids" cY ["web","place","front"] f_kids _:=⟨F_kids,PySem.W.mg_of X G a_kids,b_kids⟩
 have F_ahead:=aI (st:=b4) l_ahead c_ahead k_ahead
 have b_ahead:=F_ahead.binds (ps:=["web","r"]) fun _ _ _ _ _ _ us hl=>by obtain ⟨u0,u1,rfl⟩:=us2 hl; rfl
 have D_ahead:Df K mg "ahead" b4 ["web","r"] f_ahead _:=⟨F_ahead,PySem.W.mg_of X G a_ahead,b_ahead⟩
 have F_down:=aI (st:=cw) l_down c_down k_down
 have b_down:=F_down.binds (ps:=["web","r"]) fun _ _ _ _ _ _ us hl=>by obtain ⟨u0,u1,rfl⟩:=us2 hl; rfl
 have D_down:Df K mg "down" cw ["web","r"] f_down _:=⟨F_down,PySem.W.mg_of X G a_down,b_down⟩
 have F_inward:=aI (st:=bU) l_inward c_inward k_inward
 have b_inward:=F_inward.binds (ps:=["web","r"]) fun _ _ _ _ _ _ us hl=>by obtain ⟨u0,u1,rfl⟩:=us2 hl; rfl
 have D_inward:Df K mg "inward" bU ["web","r"] f_inward _:=⟨F_inward,PySem.W.mg_of X G a_inward,b_inward⟩
 have F_is_filled:=aI (st:=bN) l_is_filled c_is_filled k_is_filled
 have b_is_filled:=F_is_filled.binds (ps:=["web","numbers"]) fun _ _ _ _ _ _ us hl=>by obtain ⟨u0,u1,rfl⟩:=us2 hl; rfl
 have D_is_filled:Df K mg "is_filled" bN ["web","numbers"] f_is_filled _:=⟨F_is_filled,PySem.W.mg_of X G a_is_filled,b_is_filled⟩
 have F_laying_of:=aI (st:=bD) l_laying_of c_laying_of k_laying_of
 have b_laying_of:=F_laying_of.binds (ps:=["web","numbers"]) fun _ _ _ _ _ _ us hl=>by obtain ⟨u0,u1,rfl⟩:=us2 hl; rfl
 have D_laying_of:Df K mg "laying_of" bD ["web","numbers"] f_laying_of _:=⟨F_laying_of,PySem.W.mg_of X G a_laying_of,b_laying_of⟩
 have F_wish_of:=aI (st:=ce) l_wish_of c_wish_of k_wish_of
 have b_wish_of:=F_wish_of.binds (ps:=["web","numbers"]) fun _ _ _ _ _ _ us hl=>by obtain ⟨u0,u1,rfl⟩:=us2 hl; rfl
 have D_wish_of:Df K mg "wish_of" ce ["web","numbers"] f_wish_of _:=⟨F_wish_of,PySem.W.mg_of X G a_wish_of,b_wish_of⟩
 have F_standings:=aI (st:=aE) l_standings c_standings k_standings
 have b_standings:=F_standings.binds (ps:=["web","laying","wish","r"]) fun _ _ _ _ _ _ us hl=>by obtain ⟨u0,u1,u2,u3,rfl⟩:=us4 hl; rfl
 have D_standings:Df K mg "standings" aE ["web","laying","wish","r"] f_standings _:=⟨F_standings,PySem.W.mg_of X G a_standings,b_standings⟩
 have F_standing:=aI (st:=bJ) l_standing c_standing k_standing
 have b_standing:=F_standing.binds (ps:=["web","laying","wish","r"]) fun _ _ _ _ _ _ us hl=>by obtain ⟨u0,u1,u2,u3,rfl⟩:=us4 hl; rfl
 have D_standing:Df K mg "standing" bJ ["web","laying","wish","r"] f_standing _:=⟨F_standing,PySem.W.mg_of X G a_standing,b_standing⟩
 have F_is_met:=aI (st:=ci) l_is_met c_is_met k_is_met
 have b_is_met:=F_is_met.binds (ps:=["web","laying","wish"]) fun _ _ _ _ _ _ us hl=>by obtain ⟨u0,u1,u2,rfl⟩:=us3 hl; rfl
 have D_is_met:Df K mg "is_met" ci ["web","laying","wish"] f_is_met _:=⟨F_is_met,PySem.W.mg_of X G a_is_met,b_is_met⟩
 have F_lacks_of:=aI (st:=bI) l_lacks_of c_lacks_of k_lacks_of
 have b_lacks_of:=F_lacks_of.binds (ps:=["web","laying","wish"]) fun _ _ _ _ _ _ us hl=>by obtain ⟨u0,u1,u2,rfl⟩:=us3 hl; rfl
 have D_lacks_of:Df K mg "lacks_of" bI ["web","laying","wish"] f_lacks_of _:=⟨F_lacks_of,PySem.W.mg_of X G a_lacks_of,b_lacks_of⟩
 have F_covers:=aI (st:=cG) l_covers c_covers k_covers
 have b_covers:=F_covers.binds (ps:=["laying","numbers"]) fun _ _ _ _ _ _ us hl=>by obtain ⟨u0,u1,rfl⟩:=us2 hl; rfl
 have D_covers:Df K mg "covers" cG ["laying","numbers"] f_covers _:=⟨F_covers,PySem.W.mg_of X G a_covers,b_covers⟩
 have F_BadStep___init__:=aI (st:=be) l_BadStep___init__ c_BadStep___init__ k_BadStep___init__
 have b_BadStep:=F_BadStep___init__.binds (ps:=["self","at"]) fun _ _ _ _ _ _ us hl=>by obtain ⟨u0,u1,rfl⟩:=us2 hl; rfl
 have F_taken:=aI (st:=cU) l_taken c_taken k_taken
 have b_taken:=F_taken.binds (ps:=["web","step"]) fun _ _ _ _ _ _ us hl=>by obtain ⟨u0,u1,rfl⟩:=us2 hl; rfl
 have D_taken:Df K mg "taken" cU ["web","step"] f_taken _:=⟨F_taken,PySem.W.mg_of X G a_taken,b_taken⟩
 have F_behind:=aI (st:=b9) l_behind c_behind k_behind
 have b_behind:=F_behind.binds (ps:=["web","laying","step"]) fun _ _ _ _ _ _ us hl=>by obtain ⟨u0,u1,u2,rfl⟩:=us3 hl; rfl
 have D_behind:Df K mg "behind" b9 ["web","laying","step"] f_behind _:=⟨F_behind,PySem.W.mg_of X G a_behind,b_behind⟩
 have F_is_step:=aI (st:=cm) l_is_step c_is_step k_is_step
 have b_is_step:=F_is_step.binds (ps:=["web","step"]) fun _ _ _ _ _ _ us hl=>by obtain ⟨u0,u1,rfl⟩:=us2 hl; rfl
 have D_is_step:Df K mg "is_step" cm ["web","step"] f_is_step _:=⟨F_is_step,PySem.W.mg_of X G a_is_step,b_is_step⟩
 have F_can_be_done:=aI (st:=bp) l_can_be_done c_can_be_done k_can_be_done
 have b_can_be_done:=F_can_be_done.binds (ps:=["web","laying","step"]) fun _ _ _ _ _ _ us hl=>by obtain ⟨u0,u1,u2,rfl⟩:=us3 hl; rfl
 have D_can_be_done:Df K mg "can_be_done" bp ["web","laying","step"] f_can_be_done _:=⟨F_can_be_done,PySem.W.mg_of X G a_can_be_done,b_can_be_done⟩
 have F_layings:=aI (st:=bu) l_layings c_layings k_layings
 have b_layings:=F_layings.binds (ps:=["web","laying","steps"]) fun _ _ _ _ _ _ us hl=>by obtain ⟨u0,u1,u2,rfl⟩:=us3 hl; rfl
 have D_layings:Df K mg "layings" bu ["web","laying","steps"] f_layings _:=⟨F_layings,PySem.W.mg_of X G a_layings,b_layings⟩
 have F_walked:=aI (st:=cH) l_walked c_walked k_walked
 have b_walked:=F_walked.binds (ps:=["web","laying","steps"]) fun _ _ _ _ _ _ us hl=>by obtain ⟨u0,u1,u2,rfl⟩:=us3 hl; rfl
 have D_walked:Df K mg "walked" cH ["web","laying","steps"] f_walked _:=⟨F_walked,PySem.W.mg_of X G a_walked,b_walked⟩
 have F_lead_to:=aI (st:=bP) l_lead_to c_lead_to k_lead_to
 have b_lead_to:=F_lead_to.binds (ps:=["web","laying","wish","steps"]) fun _ _ _ _ _ _ us hl=>by obtain ⟨u0,u1,u2,u3,rfl⟩:=us4 hl; rfl
 have D_lead_to:Df K mg "lead_to" bP ["web","laying","wish","steps"] f_lead_to _:=⟨F_lead_to,PySem.W.mg_of X G a_lead_to,b_lead_to⟩
 have F_judged:=aI (st:=bT) l_judged c_judged k_judged
 have b_judged:=F_judged.binds (ps:=["web","laying","wish","answer"]) fun _ _ _ _ _ _ us hl=>by obtain ⟨u0,u1,u2,u3,rfl⟩:=us4 hl; rfl
 have D_judged:Df K mg "judged" bT ["web","laying","wish","answer"] f_judged _:=⟨F_judged,PySem.W.mg_of X G a_judged,b_judged⟩
 have F_steps_in:=aI (st:=aZ) l_steps_in c_steps_in k_steps_in
 have b_steps_in:=F_steps_in.binds (ps:=["web","laying","wish","r"]) fun _ _ _ _ _ _ us hl=>by obtain ⟨u0,u1,u2,u3,rfl⟩:=us4 hl; rfl
 have D_steps_in:Df K mg "steps_in" aZ ["web","laying","wish","r"] f_steps_in _:=⟨F_steps_in,PySem.W.mg_of X G a_steps_in,b_steps_in⟩
 have F_steps_out:=aI (st:=aV) l_steps_out c_steps_out k_steps_out
 have b_steps_out:=F_steps_out.binds (ps:=["web","laying","wish","r"]) fun _ _ _ _ _ _ us hl=>by obtain ⟨u0,u1,u2,u3,rfl⟩:=us4 hl; rfl
 have D_steps_out:Df K mg "steps_out" aV ["web","laying","wish","r"] f_steps_out _:=⟨F_steps_out,PySem.W.mg_of X G a_steps_out,b_steps_out⟩
 have F_meeting:=aI (st:=bS) l_meeting c_meeting k_meeting
 have b_meeting:=F_meeting.binds (ps:=["web","laying","wish"]) fun _ _ _ _ _ _ us hl=>by obtain ⟨u0,u1,u2,rfl⟩:=us3 hl; rfl
 have D_meeting:Df K mg "meeting" bS ["web","laying","wish"] f_meeting _:=⟨F_meeting,PySem.W.mg_of X G a_meeting,b_meeting⟩
 have F_law_asked:=aI (st:=bc) l_law_asked c_law_asked k_law_asked
 have b_law_asked:=F_law_asked.binds (ps:=["sort","web","laying","wish","r"]) fun _ _ _ _ _ _ us hl=>by obtain ⟨u0,u1,u2,u3,u4,rfl⟩:=us5 hl; rfl
 have D_law_asked:Df K mg "_law_asked" bc ["sort","web","laying","wish","r"] f_law_asked _:=⟨F_law_asked,PySem.W.mg_of X G a_law_asked,b_law_asked⟩
 have F_law_kinds:=aI (st:=aH) l_law_kinds c_law_kinds k_law_kinds
 have b_law_kinds:=F_law_kinds.binds (ps:=["sort","web","laying","wish","r"]) fun _ _ _ _ _ _ us hl=>by obtain ⟨u0,u1,u2,u3,u4,rfl⟩:=us5 hl; rfl
 have D_law_kinds:Df K mg "_law_kinds" aH ["sort","web","laying","wish","r"] f_law_kinds _:=⟨F_law_kinds,PySem.W.mg_of X G a_law_kinds,b_law_kinds⟩
 have F_law_laying:=aI (st:=aW) l_law_laying c_law_laying k_law_laying
 have b_law_laying:=F_law_laying.binds (ps:=["script","many","bound"]) fun _ _ _ _ _ _ us hl=>by obtain ⟨u0,u1,u2,rfl⟩:=us3 hl; rfl
 have D_law_laying:Df K mg "_law_laying" aW ["script","many","bound"] f_law_laying _:=⟨F_law_laying,PySem.W.mg_of X G a_law_laying,b_law_laying⟩
 have F_law_spoilt:=aI (st:=bz) l_law_spoilt c_law_spoilt k_law_spoilt
 have b_law_spoilt:=F_law_spoilt.binds (ps:=["numbers","cell"]) fun _ _ _ _ _ _ us hl=>by obtain ⟨u0,u1,rfl⟩:=us2 hl; rfl
 have D_law_spoilt:Df K mg "_law_spoilt" bz ["numbers","cell"] f_law_spoilt _:=⟨F_law_spoilt,PySem.W.mg_of X G a_law_spoilt,b_law_spoilt⟩
 have F_law_toll:=aI (st:=cN) l_law_toll c_law_toll k_law_toll
 have b_law_toll:=F_law_toll.binds (ps:=["part"]) fun _ _ _ _ _ _ us hl=>by obtain ⟨u0,rfl⟩:=us1 hl; rfl
 have D_law_toll:Df K mg "_law_toll" cN ["part"] f_law_toll _:=⟨F_law_toll,PySem.W.mg_of X G a_law_toll,b_law_toll⟩
 have F_law_roads:=aI (st:=aR) l_law_roads c_law_roads k_law_roads
 have b_law_roads:=F_law_roads.binds (ps:=["script","many","shape"]) fun _ _ _ _ _ _ us hl=>by obtain ⟨u0,u1,u2,rfl⟩:=us3 hl; rfl
 have D_law_roads:Df K mg "_law_roads" aR ["script","many","shape"] f_law_roads _:=⟨F_law_roads,PySem.W.mg_of X G a_law_roads,b_law_roads⟩
 have F_law_web:=aI (st:=b3) l_law_web c_law_web k_law_web
 have b_law_web:=F_law_web.binds (ps:=["script","reach"]) fun _ _ _ _ _ _ us hl=>by obtain ⟨u0,u1,rfl⟩:=us2 hl; rfl
 have D_law_web:Df K mg "_law_web" b3 ["script","reach"] f_law_web _:=⟨F_law_web,PySem.W.mg_of X G a_law_web,b_law_web⟩
 have F_law_wish:=aI (st:=bw) l_law_wish c_law_wish k_law_wish
 have b_law_wish:=F_law_wish.binds (ps:=["script","many","bound"]) fun _ _ _ _ _ _ us hl=>by obtain ⟨u0,u1,u2,rfl⟩:=us3 hl; rfl
 have D_law_wish:Df K mg "_law_wish" bw ["script","many","bound"] f_law_wish _:=⟨F_law_wish,PySem.W.mg_of X G a_law_wish,b_law_wish⟩
 have F_law:=aI (st:=bd) l_law c_law k_law
 have b_law:=F_law.binds (ps:=["script"]) fun _ _ _ _ _ _ us hl=>by obtain ⟨u0,rfl⟩:=us1 hl; rfl
 have D_law:Df K mg "law" bd ["script"] fa _:=⟨F_law,PySem.W.mg_of X G a_law,b_law⟩
 refine ⟨PySem.W.fnOf "law" "law" (aA bd) (az bd) (aa bd) .none kV_law dc_law pm_law an_law cd_law ct_law,fun s v=>.of_eq rfl,fun base _ _=>?_⟩
 have M_Web:Mk K T.Web f_Web___init__:=⟨mk_Web,a_Web___init__,i_Web___init__,kc_Web⟩
 have M_BadStep:jD K T.BadStep f_BadStep___init__:=xW _ _ _ _ _ _ _ _ _ _ _ _ _ _ _ _ xl_BadStep xe_BadStep xf_BadStep xj_BadStep xp_BadStep i_BadStep___init__
 have G_check_counts:=lL (P:=l.prog) (w:=w) (base:=base) T aG D_check_counts
 have G_is_place:=pV (P:=l.prog) (w:=w) (base:=base) T aG D_is_place
 have G_check_ends:=nJ (P:=l.prog) (w:=w) (base:=base) T aG D_check_ends D_is_place G_is_place
 have G_other_ends:=nP (P:=l.prog) (w:=w) (base:=base) T aG D_other_ends
 have G_check_joined:=lC (P:=l.prog) (w:=w) (base:=base) T aG D_check_joined D_other_ends G_other_ends
 have G_check_tolls:=mi (P:=l.prog) (w:=w) (base:=base) T aG D_check_tolls
 have G_Web_init:=lf (P:=l.prog) (w:=w) (base:=base) T aG F_Web___init__ D_check_counts G_check_counts D_check_ends G_check_ends D_check_joined G_check_joined D_check_tolls G_check_tolls
 have G_law_drawn:=oX (P:=l.prog) (w:=w) (base:=base) T aG D_law_drawn
 have G_law_bound:=py (P:=l.prog) (w:=w) (base:=base) T aG D_law_bound D_law_drawn G_law_drawn
 have G_check_place:=mm (P:=l.prog) (w:=w) (base:=base) T aG D_check_place D_is_place G_is_place
 have G_toll:=yV (P:=l.prog) (w:=w) (base:=base) T aG D_toll D_check_place G_check_place
 have G_handed_on:=pH (P:=l.prog) (w:=w) (base:=base) T aG D_handed_on D_toll G_toll
 have G_neighbours:=nO (P:=l.prog) (w:=w) (base:=base) T aG D_neighbours D_check_place G_check_place D_other_ends G_other_ends
 have G_kids:=zo (P:=l.prog) (w:=w) (base:=base) T aG D_kids D_neighbours G_neighbours
 have G_ahead:=vT (P:=l.prog) (w:=w) (base:=base) T aG D_ahead D_check_place G_check_place D_kids G_kids
 have G_down:=yH (P:=l.prog) (w:=w) (base:=base) T aG D_down D_ahead G_ahead D_kids G_kids
 have G_inward:=sM (P:=l.prog) (w:=w) (base:=base) T aG D_inward D_ahead G_ahead D_down G_down
 have G_is_filled:=pC (P:=l.prog) (w:=w) (base:=base) T aG D_is_filled
 have G_laying_of:=o8 (P:=l.prog) (w:=w) (base:=base) T aG D_laying_of D_is_filled G_is_filled
 have G_wish_of:=rD (P:=l.prog) (w:=w) (base:=base) T aG D_wish_of D_is_filled G_is_filled
 have G_standings:=pN (P:=l.prog) (w:=w) (base:=base) T aG D_standings D_handed_on G_handed_on D_inward G_inward D_laying_of G_laying_of D_wish_of G_wish_of
 have G_standing:=pS (P:=l.prog) (w:=w) (base:=base) T aG D_standing D_standings G_standings
 have G_is_met:=tU (P:=l.prog) (w:=w) (base:=base) T aG D_is_met D_standing G_standing
 have G_lacks_of:=p7 (P:=l.prog) (w:=w) (base:=base) T aG D_lacks_of D_standing G_standing
 have G_covers:=sH (P:=l.prog) (w:=w) (base:=base) T aG D_covers
 have G_BadStep_init:=iM (P:=l.prog) (w:=w) (base:=base) T aG F_BadStep___init__
 have G_taken:=wS (P:=l.prog) (w:=w) (base:=base) T aG D_taken D_toll G_toll
 have G_behind:=tS (P:=l.prog) (w:=w) (base:=base) T aG D_behind D_taken G_taken
 have G_is_step:=q8 (P:=l.prog) (w:=w) (base:=base) T aG D_is_step D_is_place G_is_place D_neighbours G_neighbours
 have G_can_be_done:=mL (P:=l.prog) (w:=w) (base:=base) T aG D_can_be_done D_is_step G_is_step D_taken G_taken
 have G_layings:=sj (P:=l.prog) (w:=w) (base:=base) T aG D_layings F_BadStep___init__ b_BadStep M_BadStep G_BadStep_init D_behind G_behind D_can_be_done G_can_be_done D_laying_of G_laying_of
 have G_walked:=sK (P:=l.prog) (w:=w) (base:=base) T aG D_walked D_layings G_layings
 have G_lead_to:=si (P:=l.prog) (w:=w) (base:=base) T aG D_lead_to D_covers G_covers D_walked G_walked
 have G_judged:=ui (P:=l.prog) (w:=w) (base:=base) T aG D_judged D_is_met G_is_met D_lacks_of G_lacks_of D_lead_to G_lead_to
 have G_steps_in:=qa (P:=l.prog) (w:=w) (base:=base) T aG D_steps_in D_handed_on G_handed_on D_inward G_inward D_standings G_standings
 have G_steps_out:=o9 (P:=l.prog) (w:=w) (base:=base) T aG D_steps_out D_inward G_inward D_standings G_standings
 have G_meeting:=qN (P:=l.prog) (w:=w) (base:=base) T aG D_meeting D_is_met G_is_met D_lacks_of G_lacks_of D_steps_in G_steps_in D_steps_out G_steps_out
 have G_law_asked:=pb (P:=l.prog) (w:=w) (base:=base) T aG D_law_asked D_is_met G_is_met D_judged G_judged D_meeting G_meeting D_standing G_standing D_standings G_standings
 have G_law_kinds:=pd (P:=l.prog) (w:=w) (base:=base) T aG D_law_kinds D_law_asked G_law_asked
 have G_law_laying:=nK (P:=l.prog) (w:=w) (base:=base) T aG D_law_laying D_law_drawn G_law_drawn
 have G_law_spoilt:=nS (P:=l.prog) (w:=w) (base:=base) T aG D_law_spoilt
 have G_law_toll:=pT (P:=l.prog) (w:=w) (base:=base) T aG D_law_toll
 have G_law_roads:=pD (P:=l.prog) (w:=w) (base:=base) T aG D_law_roads D_law_drawn G_law_drawn D_law_toll G_law_toll
 have G_law_web:=qZ (P:=l.prog) (w:=w) (base:=base) T aG D_law_web D_law_drawn G_law_drawn D_law_roads G_law_roads
 have G_law_wish:=pW (P:=l.prog) (w:=w) (base:=base) T aG D_law_wish D_law_drawn G_law_drawn
 have G_law:=AW (P:=l.prog) (w:=w) (base:=base) T aG D_law F_Web___init__ b_Web M_Web G_Web_init D_law_bound G_law_bound D_law_drawn G_law_drawn D_law_kinds G_law_kinds D_law_laying G_law_laying D_law_spoilt G_law_spoilt D_law_web G_law_web D_law_wish G_law_wish
 exact G_law
theorem walk {l:PySem.W.OpenLaw} {q:Program} {loose:List Str} {XP:(Str→Option Value)→Heap→Prop} {YP:World→Heap→Prop} {d:DefRec} {K:Params→PySem.W.Frag} (hn:l.most=some 63) (hdf:d.params.defaults=[])
   (hY:∀ (w:World) (h:Heap),YP w h→(K w.params).In h)
   (F:∀ (w:World) (mg:Str→Option Value) (fa:Addr) (h:Heap),(K w.params).In h→h.Ns mainGlobals mg→mg d.name=some (.ref fa) →
     ∃ fd:FuncData,(∀ (s:Shared) (u:Value),BindsTo s fd ⟨[u],[]⟩ [("script",u)])∧∀ base:Heap,(K w.params).In base→base.Ns mainGlobals mg→FnOk l.prog w (K w.params) mg base (CXe l.prog w) 14 fa fd ["script"] (og (K w.params))) :
   PySem.W.WalkO q loose XP YP l.row.toRowW d [] (fun f vs=>PySem.call f vs) :=
 L2.walk_of (n:=63) (k:=14) (x:="script") (CX:=fun w=>(CXe l.prog w)) (sp:=fun w=>og (K w.params)) hn (by decide) hdf ⟨rfl,by decide,by decide⟩ hY F (fun _ _ a ns hl _ hS=>⟨a,ns,rfl,hS,hl,fun _=>rfl⟩) fun _ _ _ _ _ z=>aG _ _ _ _ _ z
end Pk
open PySem PySem.W PyProof.Rows
set_option maxRecDepth 100000 in
set_option maxHeartbeats 0 in
theorem PySem.Challenge.cw_pebbletoll_k29_wishes_refused_holds : PySem.Challenge.rw_pebbletoll_k29_wishes_refused.Holds := by
 w_on; o_law
 refine PySem.W.holds_open (q:=Hd.qq) (loose:=[]) (Xt:=(fun s=>PySem.W.xlAt Hd.qq [] s && PySem.W.recOk (PySem.W.RowW.records (PySem.W.OpenRow.toRowW (PySem.Challenge.rw_pebbletoll_k29_wishes_refused).row)) s)) (XP:=PySem.W.XL Hd.qq []) (Yf:=PySem.W.Hook.obs (PySem.W.kHook Hd.KK Hd.asK Hd.asK_eq)) (Ya:=PySem.W.Hook.val (PySem.W.kHook Hd.KK Hd.asK Hd.asK_eq)) (YP:=PySem.W.Hook.says (PySem.W.kHook Hd.KK Hd.asK Hd.asK_eq)) (N:=6526) Hd.left (PySem.W.Hook.of (PySem.W.kHook Hd.KK Hd.asK Hd.asK_eq)) (PySem.W.Hook.keeps (PySem.W.kHook Hd.KK Hd.asK Hd.asK_eq)) (fun s e=>PySem.W.xl_of s (Bool.and_eq_true_iff.mp e).1) PySem.W.XL.keeps (by rfl) (by rfl) (by rfl) (fun s e=>PySem.W.recFacts_of (Bool.and_eq_true_iff.mp e).2) (by rfl) (by assumption) (by decide +kernel) ⟨rfl,rfl,rfl,rfl,rfl,by decide +kernel⟩ ?hw ?hc
 (case hw=>w_witness2)
 k_fill
 refine Pk.walk (l:=PySem.Challenge.rw_pebbletoll_k29_wishes_refused) rfl rfl (fun w h Y=>PySem.W.kIn_of Y) ?F
 case F =>
   intro w mg fa h KX G hmg
   refine' Pk.all_mk KX G hmg ?ac_TollError ?ac_BadWeb ?ac_NoPlace ?ac_NoRoad ?ac_BadLaying ?ac_BadWish ?ac_BadStep ?ac_Web ?xl_TollError ?xm_TollError ?xt_TollError ?xg_TollError ?xh_TollError ?xo_TollError ?xi_TollError ?xl_BadWeb ?xm_BadWeb ?xt_BadWeb ?xg_BadWeb ?xh_BadWeb ?xo_BadWeb ?xi_BadWeb ?xl_NoPlace ?xm_NoPlace ?xt_NoPlace ?xg_NoPlace ?xh_NoPlace ?xo_NoPlace ?xi_NoPlace ?xe_NoPlace ?xf_NoPlace ?xj_NoPlace ?xp_NoPlace ?xl_NoRoad ?xm_NoRoad ?xt_NoRoad ?xg_NoRoad ?xh_NoRoad ?xo_NoRoad ?xi_NoRoad ?xe_NoRoad ?xf_NoRoad ?xj_NoRoad ?xp_NoRoad ?xl_BadLaying ?xm_BadLaying ?xt_BadLaying ?xg_BadLaying ?xh_BadLaying ?xo_BadLaying ?xi_BadLaying ?xe_BadLaying ?xf_BadLaying ?xj_BadLaying ?xp_BadLaying ?xl_BadWish ?xm_BadWish ?xt_BadWish ?xg_BadWish ?xh_BadWish ?xo_BadWish ?xi_BadWish ?xe_BadWish ?xf_BadWish ?xj_BadWish ?xp_BadWish ?xl_BadStep ?xm_BadStep ?xt_BadStep ?xg_BadStep ?xh_BadStep ?xo_BadStep ?xi_BadStep ?xe_BadStep ?xf_BadStep ?xj_BadStep ?xp_BadStep ?bg_TollError ?br_TollError ?bf_TollError ?ss_BadStep ?st_BadStep ?xgs ?xtk ?xnd ?a_check_counts ?l_check_counts ?c_check_counts ?k_check_counts ?a_is_place ?l_is_place ?c_is_place ?k_is_place ?a_check_ends ?l_check_ends ?c_check_ends ?k_check_ends ?a_other_ends ?l_other_ends ?c_other_ends ?k_other_ends ?a_check_joined ?l_check_joined ?c_check_joined ?k_check_joined ?a_check_tolls ?l_check_tolls ?c_check_tolls ?k_check_tolls ?a_Web___init__ ?i_Web___init__ ?l_Web___init__ ?c_Web___init__ ?k_Web___init__ ?a_law_drawn ?l_law_drawn ?c_law_drawn ?k_law_drawn ?a_law_bound ?l_law_bound ?c_law_bound ?k_law_bound ?a_check_place ?l_check_place ?c_check_place ?k_check_place ?a_toll ?l_toll ?c_toll ?k_toll ?a_handed_on ?l_handed_on ?c_handed_on ?k_handed_on ?a_neighbours ?l_neighbours ?c_neighbours ?k_neighbours ?a_kids ?l_kids ?c_kids ?k_kids ?a_ahead ?l_ahead ?c_ahead ?k_ahead ?a_down ?l_down ?c_down ?k_down ?a_inward ?l_inward ?c_inward ?k_inward ?a_is_filled ?l_is_filled ?c_is_filled ?k_is_filled ?a_laying_of ?l_laying_of ?c_laying_of ?k_laying_of ?a_wish_of ?l_wish_of ?c_wish_of ?k_wish_of ?a_standings ?l_standings ?c_standings ?k_standings ?a_standing ?l_standing ?c_standing ?k_standing ?a_is_met ?l_is_met ?c_is_met ?k_is_met ?a_lacks_of ?l_lacks_of ?c_lacks_of ?k_lacks_of ?a_covers ?l_covers ?c_covers ?k_covers ?a_BadStep___init__ ?i_BadStep___init__ ?l_BadStep___init__ ?c_BadStep___init__ ?k_BadStep___init__ ?a_taken ?l_taken ?c_taken ?k_taken ?a_behind ?l_behind ?c_behind ?k_behind ?a_is_step ?l_is_step ?c_is_step ?k_is_step ?a_can_be_done ?l_can_be_done ?c_can_be_done ?k_can_be_done ?a_layings ?l_layings ?c_layings ?k_layings ?a_walked ?l_walked ?c_walked ?k_walked ?a_lead_to ?l_lead_to ?c_lead_to ?k_lead_to ?a_judged ?l_judged ?c_judged ?k_judged ?a_steps_in ?l_steps_in ?c_steps_in ?k_steps_in ?a_steps_out ?l_steps_out ?c_steps_out ?k_steps_out ?a_meeting ?l_meeting ?c_meeting ?k_meeting ?a_law_asked ?l_law_asked ?c_law_asked ?k_law_asked ?a_law_kinds ?l_law_kinds ?c_law_kinds ?k_law_kinds ?a_law_laying ?l_law_laying ?c_law_laying ?k_law_laying ?a_law_spoilt ?l_law_spoilt ?c_law_spoilt ?k_law_spoilt ?a_law_toll ?l_law_toll ?c_law_toll ?k_law_toll ?a_law_roads ?l_law_roads ?c_law_roads ?k_law_roads ?a_law_web ?l_law_web ?c_law_web ?k_law_web ?a_law_wish ?l_law_wish ?c_law_wish ?k_law_wish ?a_law ?l_law ?c_law ?k_law ?pg_Web ?hd_Web ?po_Web ?sa_Web ?mk_Web ?kc_Web ?nm_Web ?nr_Web ?z_range ?z_zip ?z_len ?z_isinstance ?z_all ?z_any ?z_int ?z_tuple ?z_list ?z_reversed ?z_sorted ?z_min ?z_enumerate ?z_str ?z_ValueError ?v_MOST_PLACES ?v_LEAST_TOLL ?v_MOST_TOLL
   (case ac_TollError=>k_is)
   (case ac_BadWeb=>k_is)
   (case ac_NoPlace=>k_is)
   (case ac_NoRoad=>k_is)
   (case ac_BadLaying=>k_is)
   (case ac_BadWish=>k_is)
   (case ac_BadStep=>k_is)
   (case ac_Web=>k_is)
   (case xl_TollError=>k_is)
   (case xm_TollError=>rfl)
   (case xt_TollError=>k_is)
   (case xg_TollError=>k_is)
   (case xh_TollError=>k_is)
   (case xo_TollError=>k_is)
   (case xi_TollError=>k_is)
   (case xl_BadWeb=>k_is)
   (case xm_BadWeb=>rfl)
   (case xt_BadWeb=>k_is)
   (case xg_BadWeb=>k_is)
   (case xh_BadWeb=>k_is)
   (case xo_BadWeb=>k_is)
   (case xi_BadWeb=>k_is)
   (case xl_NoPlace=>k_is)
   (case xm_NoPlace=>rfl)
   (case xt_NoPlace=>k_is)
   (case xg_NoPlace=>k_is)
   (case xh_NoPlace=>k_is)
   (case xo_NoPlace=>k_is)
   (case xi_NoPlace=>k_is)
   (case xe_NoPlace=>rfl)
   (case xf_NoPlace=>kernel_rfl)
   (case xj_NoPlace=>k_is)
   (case xp_NoPlace=>kernel_rfl)
   (case xl_NoRoad=>k_is)
   (case xm_NoRoad=>rfl)
   (case xt_NoRoad=>k_is)
   (case xg_NoRoad=>k_is)
   (case xh_NoRoad=>k_is)
   (case xo_NoRoad=>k_is)
   (case xi_NoRoad=>k_is)
   (case xe_NoRoad=>rfl)
   (case xf_NoRoad=>kernel_rfl)
   (case xj_NoRoad=>k_is)
   (case xp_NoRoad=>kernel_rfl)
   (case xl_BadLaying=>k_is)
   (case xm_BadLaying=>rfl)
   (case xt_BadLaying=>k_is)
   (case xg_BadLaying=>k_is)
   (case xh_BadLaying=>k_is)
   (case xo_BadLaying=>k_is)
   (case xi_BadLaying=>k_is)
   (case xe_BadLaying=>rfl)
   (case xf_BadLaying=>kernel_rfl)
   (case xj_BadLaying=>k_is)
   (case xp_BadLaying=>kernel_rfl)
   (case xl_BadWish=>k_is)
   (case xm_BadWish=>rfl)
   (case xt_BadWish=>k_is)
   (case xg_BadWish=>k_is)
   (case xh_BadWish=>k_is)
   (case xo_BadWish=>k_is)
   (case xi_BadWish=>k_is)
   (case xe_BadWish=>rfl)
   (case xf_BadWish=>kernel_rfl)
   (case xj_BadWish=>k_is)
   (case xp_BadWish=>kernel_rfl)
   (case xl_BadStep=>k_is)
   (case xm_BadStep=>rfl)
   (case xt_BadStep=>k_is)
   (case xg_BadStep=>k_is)
   (case xh_BadStep=>k_is)
   (case xo_BadStep=>k_is)
   (case xi_BadStep=>k_is)
   (case xe_BadStep=>rfl)
   (case xf_BadStep=>kernel_rfl)
   (case xj_BadStep=>k_is)
   (case xp_BadStep=>kernel_rfl)
   (case bg_TollError=>k_is)
   (case br_TollError=>k_is)
   (case bf_TollError=>k_is)
   (case ss_BadStep=>k_is)
   (case st_BadStep=>k_is)
   (case xgs=>k_is)
   (case xtk=>k_is)
   (case xnd=>decide)
   (case a_check_counts=>k_is)
   (case l_check_counts=>k_is)
   (case c_check_counts=>k_is)
   (case k_check_counts=>k_is)
   (case a_is_place=>k_is)
   (case l_is_place=>k_is)
   (case c_is_place=>k_is)
   (case k_is_place=>k_is)
   (case a_check_ends=>k_is)
   (case l_check_ends=>k_is)
   (case c_check_ends=>k_is)
   (case k_check_ends=>k_is)
   (case a_other_ends=>k_is)
   (case l_other_ends=>k_is)
   (case c_other_ends=>k_is)
   (case k_other_ends=>k_is)
   (case a_check_joined=>k_is)
   (case l_check_joined=>k_is)
   (case c_check_joined=>k_is)
   (case k_check_joined=>k_is)
   (case a_check_tolls=>k_is)
   (case l_check_tolls=>k_is)
   (case c_check_tolls=>k_is)
   (case k_check_tolls=>k_is)
   (case a_Web___init__=>k_is)
   (case i_Web___init__=>k_is)
   (case l_Web___init__=>k_is)
   (case c_Web___init__=>k_is)
   (case k_Web___init__=>k_is)
   (case a_law_drawn=>k_is)
   (case l_law_drawn=>k_is)
   (case c_law_drawn=>k_is)
   (case k_law_drawn=>k_is)
   (case a_law_bound=>k_is)
   (case l_law_bound=>k_is)
   (case c_law_bound=>k_is)
   (case k_law_bound=>k_is)
   (case a_check_place=>k_is)
   (case l_check_place=>k_is)
   (case c_check_place=>k_is)
   (case k_check_place=>k_is)
   (case a_toll=>k_is)
   (case l_toll=>k_is)
   (case c_toll=>k_is)
   (case k_toll=>k_is)
   (case a_handed_on=>k_is)
   (case l_handed_on=>k_is)
   (case c_handed_on=>k_is)
   (case k_handed_on=>k_is)
   (case a_neighbours=>k_is)
   (case l_neighbours=>k_is)
   (case c_neighbours=>k_is)
   (case k_neighbours=>k_is)
   (case a_kids=>k_is)
   (case l_kids=>k_is)
   (case c_kids=>k_is)
   (case k_kids=>k_is)
   (case a_ahead=>k_is)
   (case l_ahead=>k_is)
   (case c_ahead=>k_is)
   (case k_ahead=>k_is)
   (case a_down=>k_is)
   (case l_down=>k_is)
   (case c_down=>k_is)
   (case k_down=>k_is)
   (case a_inward=>k_is)
   (case l_inward=>k_is)
   (case c_inward=>k_is)
   (case k_inward=>k_is)
   (case a_is_filled=>k_is)
   (case l_is_filled=>k_is)
   (case c_is_filled=>k_is)
   (case k_is_filled=>k_is)
   (case a_laying_of=>k_is)
   (case l_laying_of=>k_is)
   (case c_laying_of=>k_is)
   (case k_laying_of=>k_is)
   (case a_wish_of=>k_is)
   (case l_wish_of=>k_is)
   (case c_wish_of=>k_is)
   (case k_wish_of=>k_is)
   (case a_standings=>k_is)
   (case l_standings=>k_is)
   (case c_standings=>k_is)
   (case k_standings=>k_is)
   (case a_standing=>k_is)
   (case l_standing=>k_is)
   (case c_standing=>k_is)
   (case k_standing=>k_is)
   (case a_is_met=>k_is)
   (case l_is_met=>k_is)
   (case c_is_met=>k_is)
   (case k_is_met=>k_is)
   (case a_lacks_of=>k_is)
   (case l_lacks_of=>k_is)
   (case c_lacks_of=>k_is)
   (case k_lacks_of=>k_is)
   (case a_covers=>k_is)
   (case l_covers=>k_is)
   (case c_covers=>k_is)
   (case k_covers=>k_is)
   (case a_BadStep___init__=>k_is)
   (case i_BadStep___init__=>k_is)
   (case l_BadStep___init__=>k_is)
   (case c_BadStep___init__=>k_is)
   (case k_BadStep___init__=>k_is)
   (case a_taken=>k_is)
   (case l_taken=>k_is)
   (case c_taken=>k_is)
   (case k_taken=>k_is)
   (case a_behind=>k_is)
   (case l_behind=>k_is)
   (case c_behind=>k_is)
   (case k_behind=>k_is)
   (case a_is_step=>k_is)
   (case l_is_step=>k_is)
   (case c_is_step=>k_is)
   (case k_is_step=>k_is)
   (case a_can_be_done=>k_is)
   (case l_can_be_done=>k_is)
   (case c_can_be_done=>k_is)
   (case k_can_be_done=>k_is)
   (case a_layings=>k_is)
   (case l_layings=>k_is)
   (case c_layings=>k_is)
   (case k_layings=>k_is)
   (case a_walked=>k_is)
   (case l_walked=>k_is)
   (case c_walked=>k_is)
   (case k_walked=>k_is)
   (case a_lead_to=>k_is)
   (case l_lead_to=>k_is)
   (case c_lead_to=>k_is)
   (case k_lead_to=>k_is)
   (case a_judged=>k_is)
   (case l_judged=>k_is)
   (case c_judged=>k_is)
   (case k_judged=>k_is)
   (case a_steps_in=>k_is)
   (case l_steps_in=>k_is)
   (case c_steps_in=>k_is)
   (case k_steps_in=>k_is)
   (case a_steps_out=>k_is)
   (case l_steps_out=>k_is)
   (case c_steps_out=>k_is)
   (case k_steps_out=>k_is)
   (case a_meeting=>k_is)
   (case l_meeting=>k_is)
   (case c_meeting=>k_is)
   (case k_meeting=>k_is)
   (case a_law_asked=>k_is)
   (case l_law_asked=>k_is)
   (case c_law_asked=>k_is)
   (case k_law_asked=>k_is)
   (case a_law_kinds=>k_is)
   (case l_law_kinds=>k_is)
   (case c_law_kinds=>k_is)
   (case k_law_kinds=>k_is)
   (case a_law_laying=>k_is)
   (case l_law_laying=>k_is)
   (case c_law_laying=>k_is)
   (case k_law_laying=>k_is)
   (case a_law_spoilt=>k_is)
   (case l_law_spoilt=>k_is)
   (case c_law_spoilt=>k_is)
   (case k_law_spoilt=>k_is)
   (case a_law_toll=>k_is)
   (case l_law_toll=>k_is)
   (case c_law_toll=>k_is)
   (case k_law_toll=>k_is)
   (case a_law_roads=>k_is)
   (case l_law_roads=>k_is)
   (case c_law_roads=>k_is)
   (case k_law_roads=>k_is)
   (case a_law_web=>k_is)
   (case l_law_web=>k_is)
   (case c_law_web=>k_is)
   (case k_law_web=>k_is)
   (case a_law_wish=>k_is)
   (case l_law_wish=>k_is)
   (case c_law_wish=>k_is)
   (case k_law_wish=>k_is)
   (case a_law=>k_is)
   (case l_law=>k_is)
   (case c_law=>k_is)
   (case k_law=>k_is)
   (case pg_Web=>k_is)
   (case hd_Web=>k_is)
   (case po_Web=>k_is)
   (case sa_Web=>k_is)
   (case mk_Web=>k_is)
   (case kc_Web=>k_is)
   (case nm_Web=>k_is)
   (case nr_Web=>k_is)
   (case z_range=>k_is)
   (case z_zip=>k_is)
   (case z_len=>k_is)
   (case z_isinstance=>k_is)
   (case z_all=>k_is)
   (case z_any=>k_is)
   (case z_int=>k_is)
   (case z_tuple=>k_is)
   (case z_list=>k_is)
   (case z_reversed=>k_is)
   (case z_sorted=>k_is)
   (case z_min=>k_is)
   (case z_enumerate=>k_is)
   (case z_str=>k_is)
   (case z_ValueError=>k_is)
   (case v_MOST_PLACES=>k_is)
   (case v_LEAST_TOLL=>k_is)
   (case v_MOST_TOLL=>k_is)
#print axioms PySem.Challenge.cw_pebbletoll_k29_wishes_refused_holds
