import PyProof.Rows.All
import Wide.All
import OpenK.AllK
import Wide.FinOn
import Lean
import PyProof.EqAt
import PyProof.EqKinds
import PyProof.TupleCall
import PyProof.P3Eq
import PyProof.NeData
import PyProof.FitsBits
import PyProof.ZipIter
import PyProof.TupleIter
import KE.KRevIter
import PyProof.TupleOfGen
import PyProof.ListRange
import KE.KIsAll
import PyProof.ExcArgsOwn
import OpenK.KDescr
import PyProof.StationsW
import PyProof.ExcBaseAll.ValueError
import OpenK.KOwn
import PyProof.RulesAs
import PyProof.RulesDel
import PyProof.Rows.SortWalk
import PyProof.CompUse
import KE.KDictSum
import PyProof.WalkInts
import KE.KSortTup
import PyProof.Rows.TupDisplay
import KE.KIntText
import PyProof.JoinWalk
import PySem.Challenge.RW_pebbletoll_k35_whole_always_enough
set_option Elab.async false
set_option linter.all false
set_option maxRecDepth 100000
namespace Hd
open PySem
def top (i : Nat) : Stmt := PySem.Challenge.pw_pebbletoll_k35_whole_always_enough.main.body.getD i (.Pass ⟨0, 0, 0, 0⟩)
def inC (s : Stmt) (j : Nat) : Stmt := match s with
  | .ClassDef _ _ _ b _ _ _ _ _ _ _ => b.getD j (.Pass ⟨0, 0, 0, 0⟩)
  | _ => .Pass ⟨0, 0, 0, 0⟩
def kA (s : Stmt) : Arguments := match s with
  | .FunctionDef _ a _ _ _ _ _ _ _ _ => a
  | _ => { posonlyargs := [], args := [], vararg := none, kwonlyargs := [], kw_defaults := [], kwarg := none, defaults := [] }
def kB (s : Stmt) : List Stmt := match s with
  | .FunctionDef _ _ b _ _ _ _ _ _ _ => b
  | _ => []
def kS (s : Stmt) : Scope := match s with
  | .FunctionDef _ _ _ _ _ _ sc _ _ _ => sc
  | _ => { kind := .function, names := [], isGenerator := false, isCoroutine := false }
def KK : PySem.Params → PySem.W.Frag := fun P =>
  (nat_lit 2, (.mk .none none (.dict #[] 0) #[])) ::
  (nat_lit 3, (.mk (.type "dict") none (.dict #[(.mk (PySem.PyData.keyHash P "__name__") (.str "__name__" 165) (.str "law_pebbletoll_k35_whole_always_enough" 490)), (.mk (PySem.PyData.keyHash P "__doc__") (.str "__doc__" 166) .none), (.mk (PySem.PyData.keyHash P "__package__") (.str "__package__" 167) .none), (.mk (PySem.PyData.keyHash P "__loader__") (.str "__loader__" 168) (.builtin "__main__.__loader__#opaque")), (.mk (PySem.PyData.keyHash P "__spec__") (.str "__spec__" 169) .none), (.mk (PySem.PyData.keyHash P "__annotations__") (.str "__annotations__" 170) (.ref 6)), (.mk (PySem.PyData.keyHash P "__builtins__") (.str "__builtins__" 171) (.ref 4)), (.mk (PySem.PyData.keyHash P "__file__") (.str "__file__" 173) (.str "/claim/cut.py" 172)), (.mk (PySem.PyData.keyHash P "__cached__") (.str "__cached__" 174) .none), (.mk (PySem.PyData.keyHash P "TollError") (.str "TollError" 206) (.ref 24)), (.mk (PySem.PyData.keyHash P "BadWeb") (.str "BadWeb" 222) (.ref 37)), (.mk (PySem.PyData.keyHash P "NoPlace") (.str "NoPlace" 238) (.ref 49)), (.mk (PySem.PyData.keyHash P "NoRoad") (.str "NoRoad" 254) (.ref 61)), (.mk (PySem.PyData.keyHash P "BadWish") (.str "BadWish" 270) (.ref 73)), (.mk (PySem.PyData.keyHash P "MOST_PLACES") (.str "MOST_PLACES" 274) (.int 24 273)), (.mk (PySem.PyData.keyHash P "LEAST_TOLL") (.str "LEAST_TOLL" 276) (.int 2 275)), (.mk (PySem.PyData.keyHash P "MOST_TOLL") (.str "MOST_TOLL" 278) (.int 1000000 277)), (.mk (PySem.PyData.keyHash P "Web") (.str "Web" 306) (.ref 90)), (.mk (PySem.PyData.keyHash P "toll") (.str "toll" 319) (.ref 101)), (.mk (PySem.PyData.keyHash P "neighbours") (.str "neighbours" 327) (.ref 108)), (.mk (PySem.PyData.keyHash P "check_place") (.str "check_place" 335) (.ref 115)), (.mk (PySem.PyData.keyHash P "is_place") (.str "is_place" 343) (.ref 122)), (.mk (PySem.PyData.keyHash P "check_counts") (.str "check_counts" 351) (.ref 129)), (.mk (PySem.PyData.keyHash P "check_ends") (.str "check_ends" 359) (.ref 136)), (.mk (PySem.PyData.keyHash P "check_tolls") (.str "check_tolls" 367) (.ref 143)), (.mk (PySem.PyData.keyHash P "check_joined") (.str "check_joined" 379) (.ref 150)), (.mk (PySem.PyData.keyHash P "other_ends") (.str "other_ends" 389) (.ref 157)), (.mk (PySem.PyData.keyHash P "ahead") (.str "ahead" 404) (.ref 164)), (.mk (PySem.PyData.keyHash P "down") (.str "down" 417) (.ref 171)), (.mk (PySem.PyData.keyHash P "kids") (.str "kids" 423) (.ref 176)), (.mk (PySem.PyData.keyHash P "inward") (.str "inward" 429) (.ref 181)), (.mk (PySem.PyData.keyHash P "borne") (.str "borne" 441) (.ref 188)), (.mk (PySem.PyData.keyHash P "weighed") (.str "weighed" 447) (.ref 193)), (.mk (PySem.PyData.keyHash P "bound_by") (.str "bound_by" 460) (.ref 200)), (.mk (PySem.PyData.keyHash P "check_wanted") (.str "check_wanted" 469) (.ref 207)), (.mk (PySem.PyData.keyHash P "least_weights") (.str "least_weights" 480) (.ref 214)), (.mk (PySem.PyData.keyHash P "enough") (.str "enough" 489) (.ref 221)), (.mk (PySem.PyData.keyHash P "_law_cell") (.str "_law_cell" 499) (.ref 228)), (.mk (PySem.PyData.keyHash P "_law_mixed") (.str "_law_mixed" 508) (.ref 235)), (.mk (PySem.PyData.keyHash P "_law_numbers") (.str "_law_numbers" 519) (.ref 242)), (.mk (PySem.PyData.keyHash P "_law_toll") (.str "_law_toll" 526) (.ref 249)), (.mk (PySem.PyData.keyHash P "_law_web") (.str "_law_web" 543) (.ref 256)), (.mk (PySem.PyData.keyHash P "_law_tolls") (.str "_law_tolls" 555) (.ref 263)), (.mk (PySem.PyData.keyHash P "_law_down") (.str "_law_down" 561) (.ref 268)), (.mk (PySem.PyData.keyHash P "_law_least") (.str "_law_least" 572) (.ref 275)), (.mk (PySem.PyData.keyHash P "_law_slack") (.str "_law_slack" 585) (.ref 282)), (.mk (PySem.PyData.keyHash P "_law_load") (.str "_law_load" 597) (.ref 289)), (.mk (PySem.PyData.keyHash P "_law_wanted") (.str "_law_wanted" 605) (.ref 296)), (.mk (PySem.PyData.keyHash P "_law_spread") (.str "_law_spread" 611) (.ref 301)), (.mk (PySem.PyData.keyHash P "_law_parted") (.str "_law_parted" 625) (.ref 308)), (.mk (PySem.PyData.keyHash P "_law_brought_to") (.str "_law_brought_to" 638) (.ref 315)), (.mk (PySem.PyData.keyHash P "_law_fewer") (.str "_law_fewer" 648) (.ref 322)), (.mk (PySem.PyData.keyHash P "law") (.str "law" 654) (.ref 327))] 53) #[])) ::
  (nat_lit 15, (.mk (.type "tuple") none (.seq #[(.type "ValueError")] 0) #[])) ::
  (nat_lit 22, (.mk (.type "tuple") none (.seq #[] 0) #[])) ::
  (nat_lit 23, (.mk (.type "dict") none (.dict #[(.mk (PySem.PyData.keyHash P "__module__") (.str "__module__" 196) (.str "pebbletoll.errors" 187)), (.mk (PySem.PyData.keyHash P "__firstlineno__") (.str "__firstlineno__" 200) (.int 2 199)), (.mk (PySem.PyData.keyHash P "__static_attributes__") (.str "__static_attributes__" 201) (.ref 22)), (.mk (PySem.PyData.keyHash P "__weakref__") (.str "__weakref__" 203) (.ref 25)), (.mk (PySem.PyData.keyHash P "__doc__") (.str "__doc__" 204) .none)] 3) #[])) ::
  (nat_lit 24, (.mk (.type "type") none (.cls (.mk "TollError" [(.type "ValueError")] [(.ref 24), (.type "ValueError"), (.type "Exception"), (.type "BaseException"), (.type "object")] 23 "TollError" true [] [(.ref 37), (.ref 49), (.ref 61), (.ref 73)] false none false)) #[(some (.ref 15)), none, (some (.str "TollError" 189)), (some (.str "TollError" 197)), (some (.builtin "ValueError.__new__")), (some (.bool true))])) ::
  (nat_lit 25, (.mk (.type "getset_descriptor") none (.fields #[(.str "__weakref__" 202), (.ref 24), (.builtin "ExceptionGroup.__weakref__"), .none]) #[])) ::
  (nat_lit 28, (.mk (.type "tuple") none (.seq #[(.ref 24)] 0) #[])) ::
  (nat_lit 35, (.mk (.type "tuple") none (.seq #[] 0) #[])) ::
  (nat_lit 36, (.mk (.type "dict") none (.dict #[(.mk (PySem.PyData.keyHash P "__module__") (.str "__module__" 214) (.str "pebbletoll.errors" 187)), (.mk (PySem.PyData.keyHash P "__firstlineno__") (.str "__firstlineno__" 218) (.int 4 217)), (.mk (PySem.PyData.keyHash P "__static_attributes__") (.str "__static_attributes__" 219) (.ref 35)), (.mk (PySem.PyData.keyHash P "__doc__") (.str "__doc__" 220) .none)] 2) #[])) ::
  (nat_lit 37, (.mk (.type "type") none (.cls (.mk "BadWeb" [(.ref 24)] [(.ref 37), (.ref 24), (.type "ValueError"), (.type "Exception"), (.type "BaseException"), (.type "object")] 36 "BadWeb" true [] [] false none false)) #[(some (.ref 28)), none, (some (.str "BadWeb" 207)), (some (.str "BadWeb" 215)), (some (.builtin "ValueError.__new__")), (some (.bool true))])) ::
  (nat_lit 40, (.mk (.type "tuple") none (.seq #[(.ref 24)] 0) #[])) ::
  (nat_lit 47, (.mk (.type "tuple") none (.seq #[] 0) #[])) ::
  (nat_lit 48, (.mk (.type "dict") none (.dict #[(.mk (PySem.PyData.keyHash P "__module__") (.str "__module__" 230) (.str "pebbletoll.errors" 187)), (.mk (PySem.PyData.keyHash P "__firstlineno__") (.str "__firstlineno__" 234) (.int 6 233)), (.mk (PySem.PyData.keyHash P "__static_attributes__") (.str "__static_attributes__" 235) (.ref 47)), (.mk (PySem.PyData.keyHash P "__doc__") (.str "__doc__" 236) .none)] 2) #[])) ::
  (nat_lit 49, (.mk (.type "type") none (.cls (.mk "NoPlace" [(.ref 24)] [(.ref 49), (.ref 24), (.type "ValueError"), (.type "Exception"), (.type "BaseException"), (.type "object")] 48 "NoPlace" true [] [] false none false)) #[(some (.ref 40)), none, (some (.str "NoPlace" 223)), (some (.str "NoPlace" 231)), (some (.builtin "ValueError.__new__")), (some (.bool true))])) ::
  (nat_lit 52, (.mk (.type "tuple") none (.seq #[(.ref 24)] 0) #[])) ::
  (nat_lit 59, (.mk (.type "tuple") none (.seq #[] 0) #[])) ::
  (nat_lit 60, (.mk (.type "dict") none (.dict #[(.mk (PySem.PyData.keyHash P "__module__") (.str "__module__" 246) (.str "pebbletoll.errors" 187)), (.mk (PySem.PyData.keyHash P "__firstlineno__") (.str "__firstlineno__" 250) (.int 8 249)), (.mk (PySem.PyData.keyHash P "__static_attributes__") (.str "__static_attributes__" 251) (.ref 59)), (.mk (PySem.PyData.keyHash P "__doc__") (.str "__doc__" 252) .none)] 2) #[])) ::
  (nat_lit 61, (.mk (.type "type") none (.cls (.mk "NoRoad" [(.ref 24)] [(.ref 61), (.ref 24), (.type "ValueError"), (.type "Exception"), (.type "BaseException"), (.type "object")] 60 "NoRoad" true [] [] false none false)) #[(some (.ref 52)), none, (some (.str "NoRoad" 239)), (some (.str "NoRoad" 247)), (some (.builtin "ValueError.__new__")), (some (.bool true))])) ::
  (nat_lit 64, (.mk (.type "tuple") none (.seq #[(.ref 24)] 0) #[])) ::
  (nat_lit 71, (.mk (.type "tuple") none (.seq #[] 0) #[])) ::
  (nat_lit 72, (.mk (.type "dict") none (.dict #[(.mk (PySem.PyData.keyHash P "__module__") (.str "__module__" 262) (.str "pebbletoll.errors" 187)), (.mk (PySem.PyData.keyHash P "__firstlineno__") (.str "__firstlineno__" 266) (.int 10 265)), (.mk (PySem.PyData.keyHash P "__static_attributes__") (.str "__static_attributes__" 267) (.ref 71)), (.mk (PySem.PyData.keyHash P "__doc__") (.str "__doc__" 268) .none)] 2) #[])) ::
  (nat_lit 73, (.mk (.type "type") none (.cls (.mk "BadWish" [(.ref 24)] [(.ref 73), (.ref 24), (.type "ValueError"), (.type "Exception"), (.type "BaseException"), (.type "object")] 72 "BadWish" true [] [] false none false)) #[(some (.ref 64)), none, (some (.str "BadWish" 255)), (some (.str "BadWish" 263)), (some (.builtin "ValueError.__new__")), (some (.bool true))])) ::
  (nat_lit 83, (.mk (.type "tuple") none (.seq #[] 0) #[])) ::
  (nat_lit 86, (.mk (.type "code") none (.fields #[(.str "__init__" 291), (.str "Web.__init__" 292), (.str "/claim/cut.py" 293), (.int 18 0), (.int 3 0), (.int 0 0), (.int 0 0), (.int 3 0), (.ref 83), (.bool true), (.int 181 0), (.ref 84), .none, .none, .none, (.ref 85), (.int 294 0), (.int 18 0), (.str "/claim/cut.py" 295)]) #[])) ::
  (nat_lit 87, (.mk (.type "function") none (.func (PySem.W.fnOf "__init__" "Web.__init__" (kA (inC (top 10) 0)) (kB (inC (top 10) 0)) (kS (inC (top 10) 0)) .none .none .none (.str "pebbletoll.webs" 271) none (.ref 86) .none)) #[])) ::
  (nat_lit 88, (.mk (.type "tuple") none (.seq #[(.str "many" 297), (.str "roads" 298)] 0) #[])) ::
  (nat_lit 89, (.mk (.type "dict") none (.dict #[(.mk (PySem.PyData.keyHash P "__module__") (.str "__module__" 286) (.str "pebbletoll.webs" 271)), (.mk (PySem.PyData.keyHash P "__firstlineno__") (.str "__firstlineno__" 290) (.int 16 289)), (.mk (PySem.PyData.keyHash P "__init__") (.str "__init__" 296) (.ref 87)), (.mk (PySem.PyData.keyHash P "__static_attributes__") (.str "__static_attributes__" 299) (.ref 88)), (.mk (PySem.PyData.keyHash P "__dict__") (.str "__dict__" 301) (.ref 91)), (.mk (PySem.PyData.keyHash P "__weakref__") (.str "__weakref__" 303) (.ref 92)), (.mk (PySem.PyData.keyHash P "__doc__") (.str "__doc__" 304) .none)] 4) #[])) ::
  (nat_lit 90, (.mk (.type "type") none (.cls (.mk "Web" [(.type "object")] [(.ref 90), (.type "object")] 89 "Web" true [] [] false none false)) #[none, none, (some (.str "Web" 279)), (some (.str "Web" 287)), (some (.builtin "object.__new__")), (some (.bool true))])) ::
  (nat_lit 91, (.mk (.type "getset_descriptor") none (.fields #[(.str "__dict__" 300), (.ref 90), (.builtin "function.__dict__"), (.builtin "function.__dict__#set")]) #[])) ::
  (nat_lit 92, (.mk (.type "getset_descriptor") none (.fields #[(.str "__weakref__" 302), (.ref 90), (.builtin "ExceptionGroup.__weakref__"), .none]) #[])) ::
  (nat_lit 95, (.mk (.type "tuple") none (.seq #[] 0) #[])) ::
  (nat_lit 97, (.mk (.type "tuple") none (.seq #[(.str "web" 310), (.str "a" 311), (.str "b" 312), (.str "one" 313), (.str "other" 314), (.str "there" 315), (.str "back" 316)] 0) #[])) ::
  (nat_lit 98, (.mk (.type "tuple") none (.seq #[] 0) #[])) ::
  (nat_lit 100, (.mk (.type "code") none (.fields #[(.str "toll" 307), (.str "toll" 308), (.str "/claim/cut.py" 309), (.int 27 0), (.int 3 0), (.int 0 0), (.int 0 0), (.int 3 0), (.ref 95), (.bool true), (.int 181 0), (.ref 96), .none, (.ref 97), (.ref 98), (.ref 99), (.int 317 0), (.int 27 0), (.str "/claim/cut.py" 318)]) #[])) ::
  (nat_lit 101, (.mk (.type "function") none (.func (PySem.W.fnOf "toll" "toll" (kA (top 11)) (kB (top 11)) (kS (top 11)) .none .none .none (.str "pebbletoll.webs" 271) none (.ref 100) .none)) #[])) ::
  (nat_lit 102, (.mk (.type "tuple") none (.seq #[] 0) #[])) ::
  (nat_lit 104, (.mk (.type "tuple") none (.seq #[(.str "web" 323), (.str "a" 324)] 0) #[])) ::
  (nat_lit 105, (.mk (.type "tuple") none (.seq #[] 0) #[])) ::
  (nat_lit 107, (.mk (.type "code") none (.fields #[(.str "neighbours" 320), (.str "neighbours" 321), (.str "/claim/cut.py" 322), (.int 36 0), (.int 2 0), (.int 0 0), (.int 0 0), (.int 3 0), (.ref 102), (.bool true), (.int 181 0), (.ref 103), .none, (.ref 104), (.ref 105), (.ref 106), (.int 325 0), (.int 36 0), (.str "/claim/cut.py" 326)]) #[])) ::
  (nat_lit 108, (.mk (.type "function") none (.func (PySem.W.fnOf "neighbours" "neighbours" (kA (top 12)) (kB (top 12)) (kS (top 12)) .none .none .none (.str "pebbletoll.webs" 271) none (.ref 107) .none)) #[])) ::
  (nat_lit 109, (.mk (.type "tuple") none (.seq #[] 0) #[])) ::
  (nat_lit 111, (.mk (.type "tuple") none (.seq #[(.str "web" 331), (.str "number" 332)] 0) #[])) ::
  (nat_lit 112, (.mk (.type "tuple") none (.seq #[] 0) #[])) ::
  (nat_lit 114, (.mk (.type "code") none (.fields #[(.str "check_place" 328), (.str "check_place" 329), (.str "/claim/cut.py" 330), (.int 39 0), (.int 2 0), (.int 0 0), (.int 0 0), (.int 3 0), (.ref 109), (.bool true), (.int 181 0), (.ref 110), .none, (.ref 111), (.ref 112), (.ref 113), (.int 333 0), (.int 39 0), (.str "/claim/cut.py" 334)]) #[])) ::
  (nat_lit 115, (.mk (.type "function") none (.func (PySem.W.fnOf "check_place" "check_place" (kA (top 13)) (kB (top 13)) (kS (top 13)) .none .none .none (.str "pebbletoll.webs" 271) none (.ref 114) .none)) #[])) ::
  (nat_lit 116, (.mk (.type "tuple") none (.seq #[] 0) #[])) ::
  (nat_lit 118, (.mk (.type "tuple") none (.seq #[(.str "many" 339), (.str "number" 340)] 0) #[])) ::
  (nat_lit 119, (.mk (.type "tuple") none (.seq #[] 0) #[])) ::
  (nat_lit 121, (.mk (.type "code") none (.fields #[(.str "is_place" 336), (.str "is_place" 337), (.str "/claim/cut.py" 338), (.int 42 0), (.int 2 0), (.int 0 0), (.int 0 0), (.int 3 0), (.ref 116), (.bool true), (.int 181 0), (.ref 117), .none, (.ref 118), (.ref 119), (.ref 120), (.int 341 0), (.int 42 0), (.str "/claim/cut.py" 342)]) #[])) ::
  (nat_lit 122, (.mk (.type "function") none (.func (PySem.W.fnOf "is_place" "is_place" (kA (top 14)) (kB (top 14)) (kS (top 14)) .none .none .none (.str "pebbletoll.webs" 271) none (.ref 121) .none)) #[])) ::
  (nat_lit 123, (.mk (.type "tuple") none (.seq #[] 0) #[])) ::
  (nat_lit 125, (.mk (.type "tuple") none (.seq #[(.str "many" 347), (.str "roads" 348)] 0) #[])) ::
  (nat_lit 126, (.mk (.type "tuple") none (.seq #[] 0) #[])) ::
  (nat_lit 128, (.mk (.type "code") none (.fields #[(.str "check_counts" 344), (.str "check_counts" 345), (.str "/claim/cut.py" 346), (.int 44 0), (.int 2 0), (.int 0 0), (.int 0 0), (.int 3 0), (.ref 123), (.bool true), (.int 181 0), (.ref 124), .none, (.ref 125), (.ref 126), (.ref 127), (.int 349 0), (.int 44 0), (.str "/claim/cut.py" 350)]) #[])) ::
  (nat_lit 129, (.mk (.type "function") none (.func (PySem.W.fnOf "check_counts" "check_counts" (kA (top 15)) (kB (top 15)) (kS (top 15)) .none .none .none (.str "pebbletoll.webs" 271) none (.ref 128) .none)) #[])) ::
  (nat_lit 130, (.mk (.type "tuple") none (.seq #[] 0) #[])) ::
  (nat_lit 132, (.mk (.type "tuple") none (.seq #[(.str "many" 355), (.str "road" 356)] 0) #[])) ::
  (nat_lit 133, (.mk (.type "tuple") none (.seq #[] 0) #[])) ::
  (nat_lit 135, (.mk (.type "code") none (.fields #[(.str "check_ends" 352), (.str "check_ends" 353), (.str "/claim/cut.py" 354), (.int 49 0), (.int 2 0), (.int 0 0), (.int 0 0), (.int 3 0), (.ref 130), (.bool true), (.int 181 0), (.ref 131), .none, (.ref 132), (.ref 133), (.ref 134), (.int 357 0), (.int 49 0), (.str "/claim/cut.py" 358)]) #[])) ::
  (nat_lit 136, (.mk (.type "function") none (.func (PySem.W.fnOf "check_ends" "check_ends" (kA (top 16)) (kB (top 16)) (kS (top 16)) .none .none .none (.str "pebbletoll.webs" 271) none (.ref 135) .none)) #[])) ::
  (nat_lit 137, (.mk (.type "tuple") none (.seq #[] 0) #[])) ::
  (nat_lit 139, (.mk (.type "tuple") none (.seq #[(.str "road" 363), (.str "number" 364)] 0) #[])) ::
  (nat_lit 140, (.mk (.type "tuple") none (.seq #[] 0) #[])) ::
  (nat_lit 142, (.mk (.type "code") none (.fields #[(.str "check_tolls" 360), (.str "check_tolls" 361), (.str "/claim/cut.py" 362), (.int 54 0), (.int 1 0), (.int 0 0), (.int 0 0), (.int 3 0), (.ref 137), (.bool true), (.int 181 0), (.ref 138), .none, (.ref 139), (.ref 140), (.ref 141), (.int 365 0), (.int 54 0), (.str "/claim/cut.py" 366)]) #[])) ::
  (nat_lit 143, (.mk (.type "function") none (.func (PySem.W.fnOf "check_tolls" "check_tolls" (kA (top 17)) (kB (top 17)) (kS (top 17)) .none .none .none (.str "pebbletoll.webs" 271) none (.ref 142) .none)) #[])) ::
  (nat_lit 144, (.mk (.type "tuple") none (.seq #[] 0) #[])) ::
  (nat_lit 146, (.mk (.type "tuple") none (.seq #[(.str "many" 371), (.str "roads" 372), (.str "reached" 373), (.str "waiting" 374), (.str "place" 375), (.str "end" 376)] 0) #[])) ::
  (nat_lit 147, (.mk (.type "tuple") none (.seq #[] 0) #[])) ::
  (nat_lit 149, (.mk (.type "code") none (.fields #[(.str "check_joined" 368), (.str "check_joined" 369), (.str "/claim/cut.py" 370), (.int 58 0), (.int 2 0), (.int 0 0), (.int 0 0), (.int 3 0), (.ref 144), (.bool true), (.int 181 0), (.ref 145), .none, (.ref 146), (.ref 147), (.ref 148), (.int 377 0), (.int 58 0), (.str "/claim/cut.py" 378)]) #[])) ::
  (nat_lit 150, (.mk (.type "function") none (.func (PySem.W.fnOf "check_joined" "check_joined" (kA (top 18)) (kB (top 18)) (kS (top 18)) .none .none .none (.str "pebbletoll.webs" 271) none (.ref 149) .none)) #[])) ::
  (nat_lit 151, (.mk (.type "tuple") none (.seq #[] 0) #[])) ::
  (nat_lit 153, (.mk (.type "tuple") none (.seq #[(.str "roads" 383), (.str "place" 384), (.str "ends" 385), (.str "road" 386)] 0) #[])) ::
  (nat_lit 154, (.mk (.type "tuple") none (.seq #[] 0) #[])) ::
  (nat_lit 156, (.mk (.type "code") none (.fields #[(.str "other_ends" 380), (.str "other_ends" 381), (.str "/claim/cut.py" 382), (.int 69 0), (.int 2 0), (.int 0 0), (.int 0 0), (.int 3 0), (.ref 151), (.bool true), (.int 181 0), (.ref 152), .none, (.ref 153), (.ref 154), (.ref 155), (.int 387 0), (.int 69 0), (.str "/claim/cut.py" 388)]) #[])) ::
  (nat_lit 157, (.mk (.type "function") none (.func (PySem.W.fnOf "other_ends" "other_ends" (kA (top 19)) (kB (top 19)) (kS (top 19)) .none .none .none (.str "pebbletoll.webs" 271) none (.ref 156) .none)) #[])) ::
  (nat_lit 158, (.mk (.type "tuple") none (.seq #[] 0) #[])) ::
  (nat_lit 160, (.mk (.type "tuple") none (.seq #[(.str "web" 395), (.str "r" 396), (.str "nearer" 397), (.str "waiting" 398), (.str "place" 399), (.str "front" 400), (.str "kid" 401)] 0) #[])) ::
  (nat_lit 161, (.mk (.type "tuple") none (.seq #[] 0) #[])) ::
  (nat_lit 163, (.mk (.type "code") none (.fields #[(.str "ahead" 392), (.str "ahead" 393), (.str "/claim/cut.py" 394), (.int 78 0), (.int 2 0), (.int 0 0), (.int 0 0), (.int 3 0), (.ref 158), (.bool true), (.int 181 0), (.ref 159), .none, (.ref 160), (.ref 161), (.ref 162), (.int 402 0), (.int 78 0), (.str "/claim/cut.py" 403)]) #[])) ::
  (nat_lit 164, (.mk (.type "function") none (.func (PySem.W.fnOf "ahead" "ahead" (kA (top 21)) (kB (top 21)) (kS (top 21)) .none .none .none (.str "pebbletoll.ways" 390) none (.ref 163) .none)) #[])) ::
  (nat_lit 165, (.mk (.type "tuple") none (.seq #[] 0) #[])) ::
  (nat_lit 167, (.mk (.type "tuple") none (.seq #[(.str "web" 408), (.str "r" 409), (.str "nearer" 410), (.str "places" 411), (.str "waiting" 412), (.str "place" 413), (.str "kid" 414)] 0) #[])) ::
  (nat_lit 168, (.mk (.type "tuple") none (.seq #[] 0) #[])) ::
  (nat_lit 170, (.mk (.type "code") none (.fields #[(.str "down" 405), (.str "down" 406), (.str "/claim/cut.py" 407), (.int 89 0), (.int 2 0), (.int 0 0), (.int 0 0), (.int 3 0), (.ref 165), (.bool true), (.int 181 0), (.ref 166), .none, (.ref 167), (.ref 168), (.ref 169), (.int 415 0), (.int 89 0), (.str "/claim/cut.py" 416)]) #[])) ::
  (nat_lit 171, (.mk (.type "function") none (.func (PySem.W.fnOf "down" "down" (kA (top 22)) (kB (top 22)) (kS (top 22)) .none .none .none (.str "pebbletoll.ways" 390) none (.ref 170) .none)) #[])) ::
  (nat_lit 172, (.mk (.type "tuple") none (.seq #[] 0) #[])) ::
  (nat_lit 175, (.mk (.type "code") none (.fields #[(.str "kids" 418), (.str "kids" 419), (.str "/claim/cut.py" 420), (.int 99 0), (.int 3 0), (.int 0 0), (.int 0 0), (.int 3 0), (.ref 172), (.bool true), (.int 181 0), (.ref 173), .none, .none, .none, (.ref 174), (.int 421 0), (.int 99 0), (.str "/claim/cut.py" 422)]) #[])) ::
  (nat_lit 176, (.mk (.type "function") none (.func (PySem.W.fnOf "kids" "kids" (kA (top 23)) (kB (top 23)) (kS (top 23)) .none .none .none (.str "pebbletoll.ways" 390) none (.ref 175) .none)) #[])) ::
  (nat_lit 177, (.mk (.type "tuple") none (.seq #[] 0) #[])) ::
  (nat_lit 180, (.mk (.type "code") none (.fields #[(.str "inward" 424), (.str "inward" 425), (.str "/claim/cut.py" 426), (.int 101 0), (.int 2 0), (.int 0 0), (.int 0 0), (.int 3 0), (.ref 177), (.bool true), (.int 181 0), (.ref 178), .none, .none, .none, (.ref 179), (.int 427 0), (.int 101 0), (.str "/claim/cut.py" 428)]) #[])) ::
  (nat_lit 181, (.mk (.type "function") none (.func (PySem.W.fnOf "inward" "inward" (kA (top 24)) (kB (top 24)) (kS (top 24)) .none .none .none (.str "pebbletoll.ways" 390) none (.ref 180) .none)) #[])) ::
  (nat_lit 182, (.mk (.type "tuple") none (.seq #[] 0) #[])) ::
  (nat_lit 184, (.mk (.type "tuple") none (.seq #[(.str "web" 435), (.str "weights" 436), (.str "place" 437), (.str "front" 438)] 0) #[])) ::
  (nat_lit 185, (.mk (.type "tuple") none (.seq #[] 0) #[])) ::
  (nat_lit 187, (.mk (.type "code") none (.fields #[(.str "borne" 432), (.str "borne" 433), (.str "/claim/cut.py" 434), (.int 105 0), (.int 4 0), (.int 0 0), (.int 0 0), (.int 3 0), (.ref 182), (.bool true), (.int 181 0), (.ref 183), .none, (.ref 184), (.ref 185), (.ref 186), (.int 439 0), (.int 105 0), (.str "/claim/cut.py" 440)]) #[])) ::
  (nat_lit 188, (.mk (.type "function") none (.func (PySem.W.fnOf "borne" "borne" (kA (top 26)) (kB (top 26)) (kS (top 26)) .none .none .none (.str "pebbletoll.enough" 430) none (.ref 187) .none)) #[])) ::
  (nat_lit 189, (.mk (.type "tuple") none (.seq #[] 0) #[])) ::
  (nat_lit 192, (.mk (.type "code") none (.fields #[(.str "weighed" 442), (.str "weighed" 443), (.str "/claim/cut.py" 444), (.int 107 0), (.int 2 0), (.int 0 0), (.int 0 0), (.int 3 0), (.ref 189), (.bool true), (.int 181 0), (.ref 190), .none, .none, .none, (.ref 191), (.int 445 0), (.int 107 0), (.str "/claim/cut.py" 446)]) #[])) ::
  (nat_lit 193, (.mk (.type "function") none (.func (PySem.W.fnOf "weighed" "weighed" (kA (top 27)) (kB (top 27)) (kS (top 27)) .none .none .none (.str "pebbletoll.enough" 430) none (.ref 192) .none)) #[])) ::
  (nat_lit 194, (.mk (.type "tuple") none (.seq #[] 0) #[])) ::
  (nat_lit 196, (.mk (.type "tuple") none (.seq #[(.str "web" 451), (.str "r" 452), (.str "wanted" 453), (.str "weights" 454), (.str "bound" 455), (.str "place" 456), (.str "front" 457)] 0) #[])) ::
  (nat_lit 197, (.mk (.type "tuple") none (.seq #[] 0) #[])) ::
  (nat_lit 199, (.mk (.type "code") none (.fields #[(.str "bound_by" 448), (.str "bound_by" 449), (.str "/claim/cut.py" 450), (.int 109 0), (.int 4 0), (.int 0 0), (.int 0 0), (.int 3 0), (.ref 194), (.bool true), (.int 181 0), (.ref 195), .none, (.ref 196), (.ref 197), (.ref 198), (.int 458 0), (.int 109 0), (.str "/claim/cut.py" 459)]) #[])) ::
  (nat_lit 200, (.mk (.type "function") none (.func (PySem.W.fnOf "bound_by" "bound_by" (kA (top 28)) (kB (top 28)) (kS (top 28)) .none .none .none (.str "pebbletoll.enough" 430) none (.ref 199) .none)) #[])) ::
  (nat_lit 201, (.mk (.type "tuple") none (.seq #[] 0) #[])) ::
  (nat_lit 203, (.mk (.type "tuple") none (.seq #[(.str "web" 464), (.str "r" 465), (.str "wanted" 466)] 0) #[])) ::
  (nat_lit 204, (.mk (.type "tuple") none (.seq #[] 0) #[])) ::
  (nat_lit 206, (.mk (.type "code") none (.fields #[(.str "check_wanted" 461), (.str "check_wanted" 462), (.str "/claim/cut.py" 463), (.int 115 0), (.int 3 0), (.int 0 0), (.int 0 0), (.int 3 0), (.ref 201), (.bool true), (.int 181 0), (.ref 202), .none, (.ref 203), (.ref 204), (.ref 205), (.int 467 0), (.int 115 0), (.str "/claim/cut.py" 468)]) #[])) ::
  (nat_lit 207, (.mk (.type "function") none (.func (PySem.W.fnOf "check_wanted" "check_wanted" (kA (top 29)) (kB (top 29)) (kS (top 29)) .none .none .none (.str "pebbletoll.enough" 430) none (.ref 206) .none)) #[])) ::
  (nat_lit 208, (.mk (.type "tuple") none (.seq #[] 0) #[])) ::
  (nat_lit 210, (.mk (.type "tuple") none (.seq #[(.str "web" 473), (.str "r" 474), (.str "weights" 475), (.str "place" 476), (.str "front" 477)] 0) #[])) ::
  (nat_lit 211, (.mk (.type "tuple") none (.seq #[] 0) #[])) ::
  (nat_lit 213, (.mk (.type "code") none (.fields #[(.str "least_weights" 470), (.str "least_weights" 471), (.str "/claim/cut.py" 472), (.int 119 0), (.int 2 0), (.int 0 0), (.int 0 0), (.int 3 0), (.ref 208), (.bool true), (.int 181 0), (.ref 209), .none, (.ref 210), (.ref 211), (.ref 212), (.int 478 0), (.int 119 0), (.str "/claim/cut.py" 479)]) #[])) ::
  (nat_lit 214, (.mk (.type "function") none (.func (PySem.W.fnOf "least_weights" "least_weights" (kA (top 30)) (kB (top 30)) (kS (top 30)) .none .none .none (.str "pebbletoll.enough" 430) none (.ref 213) .none)) #[])) ::
  (nat_lit 215, (.mk (.type "tuple") none (.seq #[] 0) #[])) ::
  (nat_lit 217, (.mk (.type "tuple") none (.seq #[(.str "web" 484), (.str "r" 485), (.str "wanted" 486)] 0) #[])) ::
  (nat_lit 218, (.mk (.type "tuple") none (.seq #[] 0) #[])) ::
  (nat_lit 220, (.mk (.type "code") none (.fields #[(.str "enough" 481), (.str "enough" 482), (.str "/claim/cut.py" 483), (.int 124 0), (.int 3 0), (.int 0 0), (.int 0 0), (.int 3 0), (.ref 215), (.bool true), (.int 181 0), (.ref 216), .none, (.ref 217), (.ref 218), (.ref 219), (.int 487 0), (.int 124 0), (.str "/claim/cut.py" 488)]) #[])) ::
  (nat_lit 221, (.mk (.type "function") none (.func (PySem.W.fnOf "enough" "enough" (kA (top 31)) (kB (top 31)) (kS (top 31)) .none .none .none (.str "pebbletoll.enough" 430) none (.ref 220) .none)) #[])) ::
  (nat_lit 222, (.mk (.type "tuple") none (.seq #[] 0) #[])) ::
  (nat_lit 224, (.mk (.type "tuple") none (.seq #[(.str "script" 495), (.str "k" 496)] 0) #[])) ::
  (nat_lit 225, (.mk (.type "tuple") none (.seq #[] 0) #[])) ::
  (nat_lit 227, (.mk (.type "code") none (.fields #[(.str "_law_cell" 492), (.str "_law_cell" 493), (.str "/claim/cut.py" 494), (.int 127 0), (.int 2 0), (.int 0 0), (.int 0 0), (.int 3 0), (.ref 222), (.bool true), (.int 181 0), (.ref 223), .none, (.ref 224), (.ref 225), (.ref 226), (.int 497 0), (.int 127 0), (.str "/claim/cut.py" 498)]) #[])) ::
  (nat_lit 228, (.mk (.type "function") none (.func (PySem.W.fnOf "_law_cell" "_law_cell" (kA (top 33)) (kB (top 33)) (kS (top 33)) .none .none .none (.str "law_pebbletoll_k35_whole_always_enough" 490) none (.ref 227) .none)) #[])) ::
  (nat_lit 229, (.mk (.type "tuple") none (.seq #[] 0) #[])) ::
  (nat_lit 231, (.mk (.type "tuple") none (.seq #[(.str "cell" 503), (.str "k" 504), (.str "m" 505)] 0) #[])) ::
  (nat_lit 232, (.mk (.type "tuple") none (.seq #[] 0) #[])) ::
  (nat_lit 234, (.mk (.type "code") none (.fields #[(.str "_law_mixed" 500), (.str "_law_mixed" 501), (.str "/claim/cut.py" 502), (.int 131 0), (.int 2 0), (.int 0 0), (.int 0 0), (.int 3 0), (.ref 229), (.bool true), (.int 181 0), (.ref 230), .none, (.ref 231), (.ref 232), (.ref 233), (.int 506 0), (.int 131 0), (.str "/claim/cut.py" 507)]) #[])) ::
  (nat_lit 235, (.mk (.type "function") none (.func (PySem.W.fnOf "_law_mixed" "_law_mixed" (kA (top 34)) (kB (top 34)) (kS (top 34)) .none .none .none (.str "law_pebbletoll_k35_whole_always_enough" 490) none (.ref 234) .none)) #[])) ::
  (nat_lit 236, (.mk (.type "tuple") none (.seq #[] 0) #[])) ::
  (nat_lit 238, (.mk (.type "tuple") none (.seq #[(.str "script" 512), (.str "many" 513), (.str "rest" 514), (.str "numbers" 515), (.str "k" 516)] 0) #[])) ::
  (nat_lit 239, (.mk (.type "tuple") none (.seq #[] 0) #[])) ::
  (nat_lit 241, (.mk (.type "code") none (.fields #[(.str "_law_numbers" 509), (.str "_law_numbers" 510), (.str "/claim/cut.py" 511), (.int 136 0), (.int 2 0), (.int 0 0), (.int 0 0), (.int 3 0), (.ref 236), (.bool true), (.int 181 0), (.ref 237), .none, (.ref 238), (.ref 239), (.ref 240), (.int 517 0), (.int 136 0), (.str "/claim/cut.py" 518)]) #[])) ::
  (nat_lit 242, (.mk (.type "function") none (.func (PySem.W.fnOf "_law_numbers" "_law_numbers" (kA (top 35)) (kB (top 35)) (kS (top 35)) .none .none .none (.str "law_pebbletoll_k35_whole_always_enough" 490) none (.ref 241) .none)) #[])) ::
  (nat_lit 243, (.mk (.type "tuple") none (.seq #[] 0) #[])) ::
  (nat_lit 245, (.mk (.type "tuple") none (.seq #[(.str "rest" 523)] 0) #[])) ::
  (nat_lit 246, (.mk (.type "tuple") none (.seq #[] 0) #[])) ::
  (nat_lit 248, (.mk (.type "code") none (.fields #[(.str "_law_toll" 520), (.str "_law_toll" 521), (.str "/claim/cut.py" 522), (.int 146 0), (.int 1 0), (.int 0 0), (.int 0 0), (.int 3 0), (.ref 243), (.bool true), (.int 181 0), (.ref 244), .none, (.ref 245), (.ref 246), (.ref 247), (.int 524 0), (.int 146 0), (.str "/claim/cut.py" 525)]) #[])) ::
  (nat_lit 249, (.mk (.type "function") none (.func (PySem.W.fnOf "_law_toll" "_law_toll" (kA (top 36)) (kB (top 36)) (kS (top 36)) .none .none .none (.str "law_pebbletoll_k35_whole_always_enough" 490) none (.ref 248) .none)) #[])) ::
  (nat_lit 250, (.mk (.type "tuple") none (.seq #[] 0) #[])) ::
  (nat_lit 252, (.mk (.type "tuple") none (.seq #[(.str "numbers" 530), (.str "head" 531), (.str "many" 532), (.str "names" 533), (.str "k" 534), (.str "roads" 535), (.str "rest" 536), (.str "near" 537), (.str "there" 538), (.str "back" 539), (.str "road" 540)] 0) #[])) ::
  (nat_lit 253, (.mk (.type "tuple") none (.seq #[] 0) #[])) ::
  (nat_lit 255, (.mk (.type "code") none (.fields #[(.str "_law_web" 527), (.str "_law_web" 528), (.str "/claim/cut.py" 529), (.int 150 0), (.int 1 0), (.int 0 0), (.int 0 0), (.int 3 0), (.ref 250), (.bool true), (.int 181 0), (.ref 251), .none, (.ref 252), (.ref 253), (.ref 254), (.int 541 0), (.int 150 0), (.str "/claim/cut.py" 542)]) #[])) ::
  (nat_lit 256, (.mk (.type "function") none (.func (PySem.W.fnOf "_law_web" "_law_web" (kA (top 37)) (kB (top 37)) (kS (top 37)) .none .none .none (.str "law_pebbletoll_k35_whole_always_enough" 490) none (.ref 255) .none)) #[])) ::
  (nat_lit 257, (.mk (.type "tuple") none (.seq #[] 0) #[])) ::
  (nat_lit 259, (.mk (.type "tuple") none (.seq #[(.str "roads" 547), (.str "tolls" 548), (.str "one" 549), (.str "other" 550), (.str "there" 551), (.str "back" 552)] 0) #[])) ::
  (nat_lit 260, (.mk (.type "tuple") none (.seq #[] 0) #[])) ::
  (nat_lit 262, (.mk (.type "code") none (.fields #[(.str "_law_tolls" 544), (.str "_law_tolls" 545), (.str "/claim/cut.py" 546), (.int 173 0), (.int 1 0), (.int 0 0), (.int 0 0), (.int 3 0), (.ref 257), (.bool true), (.int 181 0), (.ref 258), .none, (.ref 259), (.ref 260), (.ref 261), (.int 553 0), (.int 173 0), (.str "/claim/cut.py" 554)]) #[])) ::
  (nat_lit 263, (.mk (.type "function") none (.func (PySem.W.fnOf "_law_tolls" "_law_tolls" (kA (top 38)) (kB (top 38)) (kS (top 38)) .none .none .none (.str "law_pebbletoll_k35_whole_always_enough" 490) none (.ref 262) .none)) #[])) ::
  (nat_lit 264, (.mk (.type "tuple") none (.seq #[] 0) #[])) ::
  (nat_lit 267, (.mk (.type "code") none (.fields #[(.str "_law_down" 556), (.str "_law_down" 557), (.str "/claim/cut.py" 558), (.int 179 0), (.int 3 0), (.int 0 0), (.int 0 0), (.int 3 0), (.ref 264), (.bool true), (.int 181 0), (.ref 265), .none, .none, .none, (.ref 266), (.int 559 0), (.int 179 0), (.str "/claim/cut.py" 560)]) #[])) ::
  (nat_lit 268, (.mk (.type "function") none (.func (PySem.W.fnOf "_law_down" "_law_down" (kA (top 39)) (kB (top 39)) (kS (top 39)) .none .none .none (.str "law_pebbletoll_k35_whole_always_enough" 490) none (.ref 267) .none)) #[])) ::
  (nat_lit 269, (.mk (.type "tuple") none (.seq #[] 0) #[])) ::
  (nat_lit 271, (.mk (.type "tuple") none (.seq #[(.str "tolls" 565), (.str "order" 566), (.str "weights" 567), (.str "place" 568), (.str "near" 569)] 0) #[])) ::
  (nat_lit 272, (.mk (.type "tuple") none (.seq #[] 0) #[])) ::
  (nat_lit 274, (.mk (.type "code") none (.fields #[(.str "_law_least" 562), (.str "_law_least" 563), (.str "/claim/cut.py" 564), (.int 187 0), (.int 2 0), (.int 0 0), (.int 0 0), (.int 3 0), (.ref 269), (.bool true), (.int 181 0), (.ref 270), .none, (.ref 271), (.ref 272), (.ref 273), (.int 570 0), (.int 187 0), (.str "/claim/cut.py" 571)]) #[])) ::
  (nat_lit 275, (.mk (.type "function") none (.func (PySem.W.fnOf "_law_least" "_law_least" (kA (top 40)) (kB (top 40)) (kS (top 40)) .none .none .none (.str "law_pebbletoll_k35_whole_always_enough" 490) none (.ref 274) .none)) #[])) ::
  (nat_lit 276, (.mk (.type "tuple") none (.seq #[] 0) #[])) ::
  (nat_lit 278, (.mk (.type "tuple") none (.seq #[(.str "tolls" 576), (.str "order" 577), (.str "numbers" 578), (.str "weights" 579), (.str "place" 580), (.str "near" 581), (.str "more" 582)] 0) #[])) ::
  (nat_lit 279, (.mk (.type "tuple") none (.seq #[] 0) #[])) ::
  (nat_lit 281, (.mk (.type "code") none (.fields #[(.str "_law_slack" 573), (.str "_law_slack" 574), (.str "/claim/cut.py" 575), (.int 193 0), (.int 3 0), (.int 0 0), (.int 0 0), (.int 3 0), (.ref 276), (.bool true), (.int 181 0), (.ref 277), .none, (.ref 278), (.ref 279), (.ref 280), (.int 583 0), (.int 193 0), (.str "/claim/cut.py" 584)]) #[])) ::
  (nat_lit 282, (.mk (.type "function") none (.func (PySem.W.fnOf "_law_slack" "_law_slack" (kA (top 41)) (kB (top 41)) (kS (top 41)) .none .none .none (.str "law_pebbletoll_k35_whole_always_enough" 490) none (.ref 281) .none)) #[])) ::
  (nat_lit 283, (.mk (.type "tuple") none (.seq #[] 0) #[])) ::
  (nat_lit 285, (.mk (.type "tuple") none (.seq #[(.str "tolls" 589), (.str "order" 590), (.str "laying" 591), (.str "have" 592), (.str "place" 593), (.str "near" 594)] 0) #[])) ::
  (nat_lit 286, (.mk (.type "tuple") none (.seq #[] 0) #[])) ::
  (nat_lit 288, (.mk (.type "code") none (.fields #[(.str "_law_load" 586), (.str "_law_load" 587), (.str "/claim/cut.py" 588), (.int 201 0), (.int 3 0), (.int 0 0), (.int 0 0), (.int 3 0), (.ref 283), (.bool true), (.int 181 0), (.ref 284), .none, (.ref 285), (.ref 286), (.ref 287), (.int 595 0), (.int 201 0), (.str "/claim/cut.py" 596)]) #[])) ::
  (nat_lit 289, (.mk (.type "function") none (.func (PySem.W.fnOf "_law_load" "_law_load" (kA (top 42)) (kB (top 42)) (kS (top 42)) .none .none .none (.str "law_pebbletoll_k35_whole_always_enough" 490) none (.ref 288) .none)) #[])) ::
  (nat_lit 290, (.mk (.type "tuple") none (.seq #[] 0) #[])) ::
  (nat_lit 292, (.mk (.type "tuple") none (.seq #[(.str "cell" 601), (.str "rest" 602)] 0) #[])) ::
  (nat_lit 293, (.mk (.type "tuple") none (.seq #[] 0) #[])) ::
  (nat_lit 295, (.mk (.type "code") none (.fields #[(.str "_law_wanted" 598), (.str "_law_wanted" 599), (.str "/claim/cut.py" 600), (.int 207 0), (.int 1 0), (.int 0 0), (.int 0 0), (.int 3 0), (.ref 290), (.bool true), (.int 181 0), (.ref 291), .none, (.ref 292), (.ref 293), (.ref 294), (.int 603 0), (.int 207 0), (.str "/claim/cut.py" 604)]) #[])) ::
  (nat_lit 296, (.mk (.type "function") none (.func (PySem.W.fnOf "_law_wanted" "_law_wanted" (kA (top 43)) (kB (top 43)) (kS (top 43)) .none .none .none (.str "law_pebbletoll_k35_whole_always_enough" 490) none (.ref 295) .none)) #[])) ::
  (nat_lit 297, (.mk (.type "tuple") none (.seq #[] 0) #[])) ::
  (nat_lit 300, (.mk (.type "code") none (.fields #[(.str "_law_spread" 606), (.str "_law_spread" 607), (.str "/claim/cut.py" 608), (.int 210 0), (.int 4 0), (.int 0 0), (.int 0 0), (.int 3 0), (.ref 297), (.bool true), (.int 181 0), (.ref 298), .none, .none, .none, (.ref 299), (.int 609 0), (.int 210 0), (.str "/claim/cut.py" 610)]) #[])) ::
  (nat_lit 301, (.mk (.type "function") none (.func (PySem.W.fnOf "_law_spread" "_law_spread" (kA (top 44)) (kB (top 44)) (kS (top 44)) .none .none .none (.str "law_pebbletoll_k35_whole_always_enough" 490) none (.ref 300) .none)) #[])) ::
  (nat_lit 302, (.mk (.type "tuple") none (.seq #[] 0) #[])) ::
  (nat_lit 304, (.mk (.type "tuple") none (.seq #[(.str "held" 615), (.str "many" 616), (.str "cell" 617), (.str "laying" 618), (.str "rest" 619), (.str "left" 620), (.str "k" 621), (.str "part" 622)] 0) #[])) ::
  (nat_lit 305, (.mk (.type "tuple") none (.seq #[] 0) #[])) ::
  (nat_lit 307, (.mk (.type "code") none (.fields #[(.str "_law_parted" 612), (.str "_law_parted" 613), (.str "/claim/cut.py" 614), (.int 232 0), (.int 3 0), (.int 0 0), (.int 0 0), (.int 3 0), (.ref 302), (.bool true), (.int 181 0), (.ref 303), .none, (.ref 304), (.ref 305), (.ref 306), (.int 623 0), (.int 232 0), (.str "/claim/cut.py" 624)]) #[])) ::
  (nat_lit 308, (.mk (.type "function") none (.func (PySem.W.fnOf "_law_parted" "_law_parted" (kA (top 45)) (kB (top 45)) (kS (top 45)) .none .none .none (.str "law_pebbletoll_k35_whole_always_enough" 490) none (.ref 307) .none)) #[])) ::
  (nat_lit 309, (.mk (.type "tuple") none (.seq #[] 0) #[])) ::
  (nat_lit 311, (.mk (.type "tuple") none (.seq #[(.str "laying" 629), (.str "held" 630), (.str "cell" 631), (.str "told" 632), (.str "at" 633), (.str "k" 634), (.str "place" 635)] 0) #[])) ::
  (nat_lit 312, (.mk (.type "tuple") none (.seq #[] 0) #[])) ::
  (nat_lit 314, (.mk (.type "code") none (.fields #[(.str "_law_brought_to" 626), (.str "_law_brought_to" 627), (.str "/claim/cut.py" 628), (.int 247 0), (.int 3 0), (.int 0 0), (.int 0 0), (.int 3 0), (.ref 309), (.bool true), (.int 181 0), (.ref 310), .none, (.ref 311), (.ref 312), (.ref 313), (.int 636 0), (.int 247 0), (.str "/claim/cut.py" 637)]) #[])) ::
  (nat_lit 315, (.mk (.type "function") none (.func (PySem.W.fnOf "_law_brought_to" "_law_brought_to" (kA (top 46)) (kB (top 46)) (kS (top 46)) .none .none .none (.str "law_pebbletoll_k35_whole_always_enough" 490) none (.ref 314) .none)) #[])) ::
  (nat_lit 316, (.mk (.type "tuple") none (.seq #[] 0) #[])) ::
  (nat_lit 318, (.mk (.type "tuple") none (.seq #[(.str "laying" 642), (.str "cell" 643), (.str "told" 644), (.str "place" 645)] 0) #[])) ::
  (nat_lit 319, (.mk (.type "tuple") none (.seq #[] 0) #[])) ::
  (nat_lit 321, (.mk (.type "code") none (.fields #[(.str "_law_fewer" 639), (.str "_law_fewer" 640), (.str "/claim/cut.py" 641), (.int 256 0), (.int 2 0), (.int 0 0), (.int 0 0), (.int 3 0), (.ref 316), (.bool true), (.int 181 0), (.ref 317), .none, (.ref 318), (.ref 319), (.ref 320), (.int 646 0), (.int 256 0), (.str "/claim/cut.py" 647)]) #[])) ::
  (nat_lit 322, (.mk (.type "function") none (.func (PySem.W.fnOf "_law_fewer" "_law_fewer" (kA (top 47)) (kB (top 47)) (kS (top 47)) .none .none .none (.str "law_pebbletoll_k35_whole_always_enough" 490) none (.ref 321) .none)) #[])) ::
  (nat_lit 323, (.mk (.type "tuple") none (.seq #[] 0) #[])) ::
  (nat_lit 326, (.mk (.type "code") none (.fields #[(.str "law" 649), (.str "law" 650), (.str "/claim/cut.py" 651), (.int 261 0), (.int 1 0), (.int 0 0), (.int 0 0), (.int 3 0), (.ref 323), (.bool true), (.int 181 0), (.ref 324), .none, .none, .none, (.ref 325), (.int 652 0), (.int 261 0), (.str "/claim/cut.py" 653)]) #[])) ::
  (nat_lit 327, (.mk (.type "function") none (.func (PySem.W.fnOf "law" "law" (kA (top 48)) (kB (top 48)) (kS (top 48)) .none .none .none (.str "law_pebbletoll_k35_whole_always_enough" 490) none (.ref 326) .none)) #[])) :: []
abbrev qq : Program := PySem.W.view PySem.Challenge.pw_pebbletoll_k35_whole_always_enough [1, 2, 3, 4, 5, 7, 8, 9, 10, 11, 12, 13, 14, 15, 16, 17, 18, 19, 21, 22, 23, 24, 26, 27, 28, 29, 30, 31, 33, 34, 35, 36, 37, 38, 39, 40, 41, 42, 43, 44, 45, 46, 47, 48]
abbrev asK : List Addr := [2, 3, 15, 22, 23, 24, 25, 28, 35, 36, 37, 40, 47, 48, 49, 52, 59, 60, 61, 64, 71, 72, 73, 83, 86, 87, 88, 89, 90, 91, 92, 95, 97, 98, 100, 101, 102, 104, 105, 107, 108, 109, 111, 112, 114, 115, 116, 118, 119, 121, 122, 123, 125, 126, 128, 129, 130, 132, 133, 135, 136, 137, 139, 140, 142, 143, 144, 146, 147, 149, 150, 151, 153, 154, 156, 157, 158, 160, 161, 163, 164, 165, 167, 168, 170, 171, 172, 175, 176, 177, 180, 181, 182, 184, 185, 187, 188, 189, 192, 193, 194, 196, 197, 199, 200, 201, 203, 204, 206, 207, 208, 210, 211, 213, 214, 215, 217, 218, 220, 221, 222, 224, 225, 227, 228, 229, 231, 232, 234, 235, 236, 238, 239, 241, 242, 243, 245, 246, 248, 249, 250, 252, 253, 255, 256, 257, 259, 260, 262, 263, 264, 267, 268, 269, 271, 272, 274, 275, 276, 278, 279, 281, 282, 283, 285, 286, 288, 289, 290, 292, 293, 295, 296, 297, 300, 301, 302, 304, 305, 307, 308, 309, 311, 312, 314, 315, 316, 318, 319, 321, 322, 323, 326, 327]
theorem asK_eq : ∀ P, asK = (KK P).map (·.1) := fun _ => by kernel_rfl
theorem left : PySem.W.LeftO (PySem.Challenge.rw_pebbletoll_k35_whole_always_enough).row.prog qq [] (fun s => PySem.W.xlAt Hd.qq [] s && PySem.W.recOk (PySem.W.RowW.records (PySem.W.OpenRow.toRowW (PySem.Challenge.rw_pebbletoll_k35_whole_always_enough).row)) s) (PySem.W.Hook.obs (PySem.W.kHook Hd.KK Hd.asK Hd.asK_eq)) (PySem.W.Hook.val (PySem.W.kHook Hd.KK Hd.asK Hd.asK_eq)) 4984 := fun w => by kernel_rfl
end Hd
set_option Elab.async false
set_option linter.all false
set_option maxRecDepth 100000
namespace L2
open PySem PySem.Spec PyProof.Rows
abbrev Key := Sum Int Str
def keyIs : Key → Value → Bool
  | .inl k, v => Value.isInt k v
  | .inr x, v => Value.isStrOf x v
def keyH (w : World) : Key → Int
  | .inl k => hashInt k
  | .inr x => hashStr w x
theorem keyIs_shape : ∀ {k : Key} {v : Value}, keyIs k v = true → (∃ i t, k = Sum.inl i ∧ v = Value.int i t) ∨ (∃ x t, k = Sum.inr x ∧ v = Value.str x t)
  | .inl i, v, h => by
    obtain ⟨t, e⟩ := Value.isInt_shape (k := i) (v := v) h
    exact .inl ⟨i, t, rfl, e⟩
  | .inr x, v, h => by
    obtain ⟨t, e⟩ := Value.isStrOf_shape (x := x) (v := v) h
    exact .inr ⟨x, t, rfl, e⟩
theorem keyIs_int (i : Int) (t : Tok) : keyIs (.inl i) (.int i t) = true := by simp [keyIs, Value.isInt]
theorem keyIs_str (x : Str) (t : Tok) : keyIs (.inr x) (.str x t) = true := by simp [keyIs, Value.isStrOf]
theorem key_ll (a b : Int) : decide ((Sum.inl a : Key) = Sum.inl b) = (a == b) := by
  by_cases e : a = b
  · subst e; simp
  · have h : ¬ (Sum.inl a : Key) = Sum.inl b := fun q => e (Sum.inl.inj q)
    rw [decide_eq_false h]
    exact (beq_eq_false_iff_ne.mpr e).symm
theorem key_rr (a b : Str) : decide ((Sum.inr a : Key) = Sum.inr b) = decide (a = b) := by
  by_cases e : a = b
  · subst e; simp
  · have h : ¬ (Sum.inr a : Key) = Sum.inr b := fun q => e (Sum.inr.inj q)
    rw [decide_eq_false h, decide_eq_false e]
theorem key_lr (a : Int) (b : Str) : decide ((Sum.inl a : Key) = Sum.inr b) = false := decide_eq_false (fun q => nomatch q)
theorem key_rl (a : Str) (b : Int) : decide ((Sum.inr a : Key) = Sum.inl b) = false := decide_eq_false (fun q => nomatch q)
def mixKind (prog : Program) (w : World) : PySem.KeyKind prog w Key where
  is := keyIs
  hash := keyH w
  inj := fun v a b ha hb => by
    rcases keyIs_shape ha with ⟨i, t, rfl, rfl⟩ | ⟨x, t, rfl, rfl⟩
    · rcases keyIs_shape hb with ⟨j, u, rfl, e⟩ | ⟨y, u, rfl, e⟩
      · injection e with e1 _; rw [e1]
      · exact nomatch e
    · rcases keyIs_shape hb with ⟨j, u, rfl, e⟩ | ⟨y, u, rfl, e⟩
      · exact nomatch e
      · injection e with e1 _; rw [e1]
  byValue := fun k v h => by
    rcases keyIs_shape h with ⟨i, t, rfl, rfl⟩ | ⟨x, t, rfl, rfl⟩ <;> rfl
  pyHash := fun hv h => by
    rcases keyIs_shape hv with ⟨i, t, rfl, rfl⟩ | ⟨x, t, rfl, rfl⟩
    · exact wpAny_pyHash_int h
    · exact wpAny_pyHash_str h
  eqBool := fun hu hv h => by
    rcases keyIs_shape hu with ⟨i, t, rfl, rfl⟩ | ⟨x, t, rfl, rfl⟩
    · rcases keyIs_shape hv with ⟨j, u, rfl, rfl⟩ | ⟨y, u, rfl, rfl⟩
      · rw [key_ll] at h; exact wpAny_eqBool_int h
      · rw [key_lr] at h; exact SeqAt.EqAt.int_str i t y u _ _ _ _ h
    · rcases keyIs_shape hv with ⟨j, u, rfl, rfl⟩ | ⟨y, u, rfl, rfl⟩
      · rw [key_rl] at h; exact SeqAt.EqAt.str_int x t j u _ _ _ _ h
      · rw [key_rr] at h; exact wpAny_eqBool_str h
  «strs» := fun k x t v h => by
    rcases keyIs_shape h with ⟨i, u, rfl, e⟩ | ⟨y, u, rfl, e⟩
    · exact nomatch e
    · injection e with e1 _
      subst e1
      cases v <;> rfl
theorem mixKind_int (prog : Program) (w : World) (i : Int) (t : Tok) : (mixKind prog w).is (.inl i) (.int i t) = true := keyIs_int i t
theorem mixKind_str (prog : Program) (w : World) (x : Str) (t : Tok) : (mixKind prog w).is (.inr x) (.str x t) = true := keyIs_str x t
end L2
namespace L2
open PySem PySem.Spec PyProof.Rows
inductive V where
  | non | bl (b : Bool) | int (i : Int) | str (x : Str) | byt (b : Array UInt8) | flt (b : UInt64) | ref (a : Addr) | ty (n : String)
  deriving DecidableEq
def RelV : V → Value → Prop
  | .non, u => u = Value.none
  | .bl b, u => u = Value.bool b
  | .int i, u => ∃ t, u = Value.int i t
  | .str x, u => ∃ t, u = Value.str x t
  | .byt b, u => ∃ t, u = Value.bytes b t
  | .flt b, u => ∃ t, u = Value.float b t
  | .ref a, u => u = Value.ref a
  | .ty n, u => u = Value.type n
abbrev Vals : List V → List Value → Prop := Paired RelV
theorem Vals.length {xs : List V} {us : List Value} (r : Vals xs us) : xs.length = us.length := Paired.length r
theorem Vals.get : ∀ {xs : List V} {us : List Value} {i : Nat} {x : V}, Vals xs us → xs[i]? = some x → ∃ u, us[i]? = some u ∧ RelV x u
  | _, _, _, _, .nil, e => by simp at e
  | _, _, 0, _, .cons r _, e => by simp at e; subst e; exact ⟨_, rfl, r⟩
  | _, _, i + 1, x, .cons _ t, e => by
    obtain ⟨u, h1, h2⟩ := Vals.get (i := i) (x := x) t (by simpa using e)
    exact ⟨u, by simpa using h1, h2⟩
theorem Vals.set {x : V} {u : Value} (r : RelV x u) : ∀ {xs : List V} {us : List Value} (i : Nat), Vals xs us → Vals (xs.set i x) (us.set i u)
  | _, _, _, .nil => .nil
  | _, _, 0, .cons _ t => .cons r t
  | _, _, i + 1, .cons q t => .cons q (Vals.set r i t)
theorem Vals.append : ∀ {xs ys : List V} {us ws : List Value}, Vals xs us → Vals ys ws → Vals (xs ++ ys) (us ++ ws)
  | _, _, _, _, .nil, s => s
  | _, _, _, _, .cons r t, s => .cons r (Vals.append t s)
theorem Vals.take : ∀ {xs : List V} {us : List Value} (n : Nat), Vals xs us → Vals (xs.take n) (us.take n)
  | _, _, 0, _ => .nil
  | _, _, _ + 1, .nil => .nil
  | _, _, n + 1, .cons r t => .cons r (Vals.take n t)
theorem Vals.drop : ∀ {xs : List V} {us : List Value} (n : Nat), Vals xs us → Vals (xs.drop n) (us.drop n)
  | _, _, 0, r => r
  | _, _, _ + 1, .nil => .nil
  | _, _, n + 1, .cons _ t => Vals.drop n t
def RelO : Option V → Option Value → Prop
  | some v, some u => RelV v u
  | none, none => True
  | _, _ => False
def KV {κ : Type} : List (κ × V) → List (κ × Value) → Prop := Paired fun (p : κ × V) (q : κ × Value) => p.1 = q.1 ∧ RelV p.2 q.2
def kV : Key → V
  | .inl i => .int i
  | .inr x => .str x
inductive HO where
  /-- a list -/
  | lst (xs : List V)
  /-- a tuple (never changes) -/
  | tup (xs : List V)
  /-- a dict whose keys are ints and texts; one whose keys are tuples of ints and texts (the empty one is both) -/
  | dK (kvs : List (Key × V)) | dT (kvs : List (List Key × V))
  /-- a set of ints: its members, its size -/
  | set (S : Int → Bool) (n : Nat)
  /-- an instance of the class at C, its dict at dx, its attributes -/
  | ins (C dx : Addr) (fs : List (Str × V))
  /-- the dict of the instance at x -/
  | own (x : Addr)
  /-- the dict of an exception -/
  | xd (fs : List (Str × V))
  /-- a bound method, f of x -/
  | met (f x : Addr)
  /-- a range object lo, lo + 1, .. below hi -/
  | rng (lo hi : Int)
  /-- a thing that is known to the object (the script; a dict while a loop walks it): read, never written while it is so -/
  | frz (o : Obj) (u : HO)
  /-- a code object's table -/
  | tbl (ps : Array Value)
  /-- any other thing, by what is true of its one object (a def of one's own: SetO a S n := HO.ext fun h => ..) -/
  | ext (φ : Heap → Prop)
abbrev Hp := Addr → Option HO
def upd (H : Hp) (a : Addr) (o : HO) : Hp := fun b => if b = a then some o else H b
theorem upd_same {H : Hp} {a : Addr} {o : HO} : upd H a o a = some o := by unfold upd; rw [if_pos rfl]
theorem upd_ne {H : Hp} {a b : Addr} {o : HO} (h : b ≠ a) : upd H a o b = H b := by unfold upd; rw [if_neg h]
theorem upd_upd {H : Hp} {a : Addr} {o u : HO} : upd (upd H a o) a u = upd H a u := by
  funext b; unfold upd; split <;> rfl
theorem ne_of {H : Hp} {a b : Addr} {o u : HO} (h : H a = some o) (h' : H b = some u) (d : o ≠ u) : a ≠ b := by
  intro e; subst e; rw [h] at h'; exact d (Option.some.inj h')
theorem ne_of_none {H : Hp} {a b : Addr} {o : HO} (h : H a = some o) (h' : H b = none) : a ≠ b := by
  intro e; subst e; rw [h] at h'; cases h'
section
variable (P : Program) (w : World)
def ObjOk (H : Hp) (h : Heap) (a : Addr) : HO → Prop
  | .lst xs => xs.length ≤ sizeLine ∧ ∃ (its : List Value) (n : Nat), Vals xs its ∧ h.get? a = some { cls := .type "list", data := .seq its.toArray n }
  | .tup xs => xs.length ≤ sizeLine ∧ ∃ its : List Value, Vals xs its ∧ IsTup h a its.toArray
  | .dK kvs => kvs.length ≤ sizeLine ∧ (a == sysModules) = false ∧ ∃ vs, KV kvs vs ∧ h.DictOf (mixKind P w) a vs
  | .dT kvs => kvs.length ≤ sizeLine ∧ (a == sysModules) = false ∧ ∃ xs : List (List Key × Addr × Value),
      Paired (fun (p : List Key × V) (q : List Key × Addr × Value) => p.1 = q.1 ∧ H q.2.1 = some (.tup (p.1.map kV)) ∧ RelV p.2 q.2.2) kvs xs ∧
      ∃ o es ep, h.get? a = some o ∧ o.ExactDict ∧ o.data = .dict es ep ∧ es.toList = xs.map (entryOfKey (tupleKind (mixKind P w))) ∧ (xs.map (·.1)).Nodup
  | .set S n => h.SetOf (intKind P w) a S n
  | .ins C dx fs => H dx = some (.own a) ∧ fs.length ≤ 1000 ∧ dx ≠ a ∧ h.get? a = some (PySem.W.instObj C dx) ∧
      ∃ mA, h.Ns1 dx mA ∧ (∀ f, RelO (fs.lookup f) (mA f)) ∧ PySem.Within mA (fs.map (·.1))
  | .own _ => ∃ o, h.get? a = some o
  | .xd fs => ∃ mA, h.Ns1 a mA ∧ ∀ f, RelO (fs.lookup f) (mA f)
  | .rng lo hi => ∃ t u v, h.get? a = some { cls := .type "range", data := .fields #[.int lo t, .int hi u, .int 1 v] }
  | .frz o u => h.get? a = some o ∧ ObjOk H h a u
  | .tbl ps => h.get? a = some { cls := .none, data := .fields ps }
  | .met f x => h.get? a = some (PySem.W.methodObj (.ref f) (.ref x))
  | .ext φ => φ h ∧ (∃ o, h.get? a = some o) ∧ ∀ h1 h2 : Heap, φ h1 → (∀ o, h1.get? a = some o → h2.get? a = some o) → φ h2
def HOk (H : Hp) (h : Heap) : Prop := ∀ a o, H a = some o → ObjOk P w H h a o
end
section
variable {P : Program} {w : World} {H H' : Hp} {h h' : Heap} {a : Addr} {o : HO}
theorem ObjOk.lt (x : ObjOk P w H h a o) : a < h.objs.size := by
  cases o with
  | lst xs => obtain ⟨_, _, _, _, e⟩ := x; exact Heap.lt_size e
  | tup xs => obtain ⟨_, _, _, p⟩ := x; exact p.lt
  | dK kvs => obtain ⟨_, _, _, _, o, _, _, e, _⟩ := x; exact Heap.lt_size e
  | dT kvs => obtain ⟨_, _, _, _, o, _, _, e, _⟩ := x; exact Heap.lt_size e
  | set S n => obtain ⟨o, _, _, _, e, _⟩ := x; exact Heap.lt_size e
  | ins C dx fs => obtain ⟨_, _, _, e, _⟩ := x; exact Heap.lt_size e
  | own y => obtain ⟨_, e⟩ := x; exact Heap.lt_size e
  | xd fs => obtain ⟨_, ⟨_, _, _, e, _⟩, _⟩ := x; exact Heap.lt_size e
  | rng lo hi => obtain ⟨_, _, _, e⟩ := x; exact Heap.lt_size e
  | frz ob u => obtain ⟨e, _⟩ := x; exact Heap.lt_size e
  | tbl ps => exact Heap.lt_size (show h.get? a = some _ from x)
  | met f y => exact Heap.lt_size (show h.get? a = some _ from x)
  | ext φ => obtain ⟨_, ⟨_, e⟩, _⟩ := x; exact Heap.lt_size e
theorem Paired.mapP {α β : Type} {F G : α → β → Prop} : ∀ {l₁ : List α} {l₂ : List β}, Paired F l₁ l₂ → (∀ a b, F a b → G a b) → Paired G l₁ l₂
  | _, _, .nil, _ => .nil
  | _, _, .cons r t, f => .cons (f _ _ r) (Paired.mapP t f)
theorem Paired.imp' {α β : Type} {F G : α → β → Prop} (f : ∀ a b, F a b → G a b) {l₁ : List α} {l₂ : List β} (r : Paired F l₁ l₂) : Paired G l₁ l₂ := Paired.mapP r f
theorem ObjOk.stay (x : ObjOk P w H h a o) (k : ∀ b u, (b = a ∨ H b = some (.own a)) → h.get? b = some u → h'.get? b = some u)
    (ho : ∀ b, H b = some (.own a) → H' b = some (.own a)) (ht : ∀ b xs, H b = some (.tup xs) → H' b = some (.tup xs)) : ObjOk P w H' h' a o := by
  induction o with
  | lst xs => obtain ⟨z, its, n, r, e⟩ := x; exact ⟨z, its, n, r, k _ _ (.inl rfl) e⟩
  | tup xs => obtain ⟨z, its, r, ob, e, c⟩ := x; exact ⟨z, its, r, ob, k _ _ (.inl rfl) e, c⟩
  | dK kvs => obtain ⟨z, y, vs, r, ob, es, ep, e, c⟩ := x; exact ⟨z, y, vs, r, ob, es, ep, k _ _ (.inl rfl) e, c⟩
  | dT kvs =>
    obtain ⟨z, y, xs, r, ob, es, ep, e, c⟩ := x
    exact ⟨z, y, xs, Paired.mapP r fun p q z => ⟨z.1, ht _ _ z.2.1, z.2.2⟩, ob, es, ep, k _ _ (.inl rfl) e, c⟩
  | set S n => obtain ⟨ob, es, ep, t, e, c⟩ := x; exact ⟨ob, es, ep, t, k _ _ (.inl rfl) e, c⟩
  | ins C dx fs =>
    obtain ⟨d, z, ne, e, mA, ⟨od, es, ep, e2, c⟩, r⟩ := x
    exact ⟨ho _ d, z, ne, k _ _ (.inl rfl) e, mA, ⟨od, es, ep, k _ _ (.inr d) e2, c⟩, r⟩
  | own y => obtain ⟨ob, e⟩ := x; exact ⟨ob, k _ _ (.inl rfl) e⟩
  | xd fs => obtain ⟨mA, ⟨od, es, ep, e, c⟩, r⟩ := x; exact ⟨mA, ⟨od, es, ep, k _ _ (.inl rfl) e, c⟩, r⟩
  | rng lo hi => obtain ⟨t, u, v, e⟩ := x; exact ⟨t, u, v, k _ _ (.inl rfl) e⟩
  | frz ob u ih => obtain ⟨e, q⟩ := x; exact ⟨k _ _ (.inl rfl) e, ih q⟩
  | tbl ps =>
    have e : h.get? a = some { cls := .none, data := .fields ps } := x
    show h'.get? a = some { cls := .none, data := .fields ps }
    exact k a _ (.inl rfl) e
  | met f y =>
    have e : h.get? a = some (PySem.W.methodObj (.ref f) (.ref y)) := x
    show h'.get? a = some (PySem.W.methodObj (.ref f) (.ref y))
    exact k a _ (.inl rfl) e
  | ext φ => obtain ⟨p, ⟨o, e⟩, st⟩ := x; exact ⟨st _ _ p fun o q => k _ _ (.inl rfl) q, ⟨o, k _ _ (.inl rfl) e⟩, st⟩
theorem HOk.lt (x : HOk P w H h) (e : H a = some o) : a < h.objs.size := (x a o e).lt
theorem HOk.fresh (x : HOk P w H h) (e : h.objs.size ≤ a) : H a = none := by
  cases q : H a with
  | none => rfl
  | some u => exact absurd (Nat.lt_of_lt_of_le (x.lt q) e) (Nat.lt_irrefl _)
theorem HOk.kept (x : HOk P w H h) (k : ∀ b u, h.get? b = some u → h'.get? b = some u) : HOk P w H h' := fun a o e =>
  (x a o e).stay (fun b u _ q => k b u q) (fun _ q => q) fun _ _ q => q
theorem HOk.laid (x : HOk P w H h) (k : ∀ b u, h.get? b = some u → h'.get? b = some u) (hp : h.objs.size ≤ a) (new : ObjOk P w (upd H a o) h' a o) : HOk P w (upd H a o) h' := fun b u e => by
  have hn := x.fresh hp
  by_cases hb : b = a
  · subst hb; rw [upd_same] at e; cases e; exact new
  · rw [upd_ne hb] at e
    exact (x b u e).stay (fun c v _ q => k c v q) (fun c q => by rw [upd_ne (ne_of_none q hn)]; exact q) fun c xs q => by rw [upd_ne (ne_of_none q hn)]; exact q
end
def Rd (H : Hp) (a : Addr) (u : HO) : Prop := H a = some u ∨ ∃ o, H a = some (.frz o u)
theorem Rd.ok {P : Program} {w : World} {H : Hp} {h : Heap} {a : Addr} {u : HO} (r : Rd H a u) (x : HOk P w H h) : ObjOk P w H h a u := by
  rcases r with r | ⟨o, r⟩
  · exact x a u r
  · obtain ⟨_, q⟩ := x a _ r
    exact q
def Mut : Option HO → Prop
  | some (.lst _) => True
  | some (.dK _) => True
  | some (.dT _) => True
  | some (.set _ _) => True
  | some (.ins _ _ _) => True
  | some (.ext _) => True
  | _ => False
section
variable {P : Program} {w : World} {H : Hp} {h h' : Heap} {x e : Addr} {o' : HO}
theorem HOk.write (ok : HOk P w H h) (mu : Mut (H x)) (he : e = x ∨ H e = some (.own x)) (k : ∀ b u, b ≠ e → h.get? b = some u → h'.get? b = some u) (heo : ∃ u, h'.get? e = some u)
    (new : ObjOk P w (upd H x o') h' x o') : HOk P w (upd H x o') h' := fun b u q => by
  have nown : ∀ c y, H c = some (.own y) → c ≠ x := fun c y r z => by subst z; rw [r] at mu; exact mu
  have ntup : ∀ c xs, H c = some (.tup xs) → c ≠ x := fun c xs r z => by subst z; rw [r] at mu; exact mu
  by_cases hb : b = x
  · subst hb; rw [upd_same] at q; cases q; exact new
  · rw [upd_ne hb] at q
    by_cases hbe : b = e
    · have q' : H b = some (.own x) := by
        rcases he with z | z
        · exact absurd (hbe.trans z) hb
        · rw [hbe]; exact z
      rw [q] at q'; cases q'
      obtain ⟨v, hv⟩ := heo
      exact ⟨v, by rw [hbe]; exact hv⟩
    · refine (ok b u q).stay (fun c v hc r => k c v ?_ r) (fun c r => by rw [upd_ne (nown c b r)]; exact r) fun c xs r => by rw [upd_ne (ntup c xs r)]; exact r
      rcases hc with rfl | hc
      · exact hbe
      · rintro rfl
        rcases he with z | z
        · exact nown c b hc z
        · rw [hc] at z; cases z; exact hb rfl
end
structure Un (fs ex : List Addr) (H H' : Hp) (h h' : Heap) : Prop where
  keep : ∀ b o, h.get? b = some o → H b = none → b ∉ fs → b ∉ ex → h'.get? b = some o
  slot : ∀ b o, h.get? b = some o → H b = none → b ∈ fs → b ∉ ex → ∃ sl, h'.get? b = some { o with slots := sl }
  free : ∀ b o, h.get? b = some o → H b = none → b ∉ ex → H' b = none
  there : ∀ b o, h.get? b = some o → b ∉ ex → ∃ o', h'.get? b = some o'
  tups : ∀ b xs, H b = some (.tup xs) → H' b = some (.tup xs)
  frzs : ∀ b o u, H b = some (.frz o u) → H' b = some (.frz o u)
  tbls : ∀ b ps, H b = some (.tbl ps) → ∃ more, H' b = some (.tbl (ps ++ more))
section
variable {fs fs' ex ex' : List Addr} {H H1 H2 : Hp} {h h1 h2 h' : Heap} {a x e : Addr} {o : HO}
theorem Un.any (u : Un fs ex H H1 h h1) {b : Addr} {ob : Obj} (q : h.get? b = some ob) (n : H b = none) (hx : b ∉ ex) : ∃ sl, h1.get? b = some { ob with slots := sl } := by
  by_cases hb : b ∈ fs
  · exact u.slot b ob q n hb hx
  · exact ⟨ob.slots, u.keep b ob q n hb hx⟩
theorem Un.kept (k : ∀ b u, h.get? b = some u → h'.get? b = some u) : Un fs ex H H h h' :=
  ⟨fun b ob q _ _ _ => k b ob q, fun b ob q _ _ _ => ⟨ob.slots, k b ob q⟩, fun _ _ _ n _ => n, fun b ob q _ => ⟨ob, k b ob q⟩, fun _ _ q => q, fun _ _ _ q => q, fun _ ps q => ⟨#[], by rw [q]; simp⟩⟩
theorem Un.refl : Un fs ex H H h h := Un.kept fun _ _ q => q
theorem Un.laid (k : ∀ b u, h.get? b = some u → h'.get? b = some u) (hp : h.objs.size ≤ a) (hn : H a = none) : Un fs ex H (upd H a o) h h' where
  keep := fun b u q _ _ _ => k b u q
  slot := fun b u q _ _ _ => ⟨u.slots, k b u q⟩
  free := fun b u q n _ => by rw [upd_ne (Nat.ne_of_lt (Nat.lt_of_lt_of_le (Heap.lt_size q) hp))]; exact n
  there := fun b u q _ => ⟨u, k b u q⟩
  tups := fun b xs q => by rw [upd_ne (ne_of_none q hn)]; exact q
  frzs := fun b u xs q => by rw [upd_ne (ne_of_none q hn)]; exact q
  tbls := fun b ps q => ⟨#[], by rw [upd_ne (ne_of_none q hn), q]; simp⟩
theorem Un.write (mu : Mut (H x)) (he : e = x ∨ H e = some (.own x)) (k : ∀ b u, b ≠ e → h.get? b = some u → h'.get? b = some u) (heo : ∃ u, h'.get? e = some u) : Un fs ex H (upd H x o) h h' := by
  have hx : ∀ b, H b = none → b ≠ x := fun b n z => by subst z; rw [n] at mu; exact mu
  have hb : ∀ b, H b = none → b ≠ e := fun b n z => by
    subst z
    rcases he with r | r
    · exact hx b n r
    · rw [n] at r; cases r
  have hm : ∀ b u, H b = some u → ¬ Mut (some u) → b ≠ x := fun b u q nm z => by subst z; rw [q] at mu; exact nm mu
  refine ⟨fun b u q n _ _ => k b u (hb b n) q, fun b u q n _ _ => ⟨u.slots, k b u (hb b n) q⟩, fun b u q n _ => by rw [upd_ne (hx b n)]; exact n, fun b u q _ => ?_,
    fun b xs q => by rw [upd_ne (hm b _ q fun z => z)]; exact q, fun b u xs q => by rw [upd_ne (hm b _ q fun z => z)]; exact q, fun b ps q => ⟨#[], by rw [upd_ne (hm b _ q fun z => z), q]; simp⟩⟩
  by_cases hbe : b = e
  · subst hbe; exact heo
  · exact ⟨u, k b u hbe q⟩
end
def trk (h : Heap) (H : Hp) : List Addr := (List.range h.objs.size).filter fun a => (H a).isSome
def hidT (h : Heap) (H : Hp) : Heap := PySem.W.hideAll h (trk h H)
theorem hidT_size (h : Heap) (H : Hp) : (hidT h H).objs.size = h.objs.size := PySem.W.hideAll_size _ _
theorem hidT_get {h : Heap} {H : Hp} {b : Addr} {o : Obj} (e : h.get? b = some o) (n : H b = none) : (hidT h H).get? b = some o :=
  PySem.W.hideAll_get _ e fun hm => by
    have q : (H b).isSome = true := (List.mem_filter.mp hm).2
    rw [n] at q; simp at q
theorem of_hidT {h : Heap} {H : Hp} {b : Addr} {o : Obj} (e : (hidT h H).get? b = some o) : h.get? b = some o ∧ H b = none := by
  have e' : h.get? b = some o := PySem.W.of_hideAll (trk h H) e
  refine ⟨e', ?_⟩
  cases q : H b with
  | none => rfl
  | some x =>
    have hm : b ∈ trk h H := List.mem_filter.mpr ⟨List.mem_range.mpr (Heap.lt_size e'), by simp [q]⟩
    have z : (hidT h H).get? b = none := PySem.W.hideAll_none (trk h H) hm
    rw [z] at e; cases e
def allNews (g h : Heap) (L : Addr) : List (Addr × Obj) := (List.range h.objs.size).filterMap fun a => if a = L ∨ (g.get? a).isSome = true then none else (h.get? a).map fun o => (a, o)
def rest (g h : Heap) (L d : Addr) : List (Addr × Obj) := (allNews g h L).filter fun p => decide (p.1 ≠ d)
end L2
namespace L2
open PySem PySem.Spec PyProof.Rows
structure Mod (K : PySem.W.Frag) (mg : Str → Option Value) (base : Heap) : Prop where
  kin : K.In base
  glob : base.Ns mainGlobals mg
  blt : ∃ mb, base.Ns builtinsNs mb ∧ ∀ x : Str, x ≠ "__name__" → mb x = bootBuiltins x
  nolimit : base.NoLimit
structure Cx where
  prog : Program
  w : World
  K : PySem.W.Frag
  mg : Str → Option Value
  base : Heap
  A : Around
  N : List Str
  s₀ : Shared
  H₀ : Hp
  env : Env
  outer : List Env
  stack : List Env
  ex : List Addr
  fn : Str → Bool
  calm : Bool
  pn : List (Addr × Obj)
  xe : Value → Shared → Prop
def frs (l : List Env) : List Addr := l.filterMap (·.frame)
abbrev Cx.fs (X : Cx) : List Addr := frs X.outer
def Vis (sc : Scope) (x : Str) : Prop := sc.names.lookup x = some .local ∨ sc.names.lookup x = some .cell ∨ sc.names.lookup x = some .free
def Loc (sc : Scope) (x : Str) : Prop := sc.names.lookup x = some .local ∨ sc.names.lookup x = some .cell
def Look (env : Env) (h : Heap) (m : Str → Option Value) (x : Str) (u : Value) : Prop :=
  (env.kindOf x = some .local ∧ m x = some u) ∨ ((env.kindOf x = some .cell ∨ env.kindOf x = some .free) ∧ ∃ c, env.cells.lookup x = some c ∧ h.IsCell c (some u))
structure Cx.Ok (X : Cx) : Prop where
  mod : Mod X.K X.mg X.base
  kind : X.env.scope.kind = .function
  glob : X.env.globals = mainGlobals
  blt : X.env.builtins = builtinsNs
  above : X.s₀.heap.objs.size ≤ X.env.locals
  inj : ∀ x y c, X.env.cells.lookup x = some c → X.env.cells.lookup y = some c → x = y
  has : ∀ x, (X.env.kindOf x = some .cell ∨ X.env.kindOf x = some .free) → ∃ c, X.env.cells.lookup x = some c
  cab : ∀ x c, X.fn x = true → X.env.cells.lookup x = some c → X.s₀.heap.objs.size ≤ c
  hd : X.calm = true → X.A.handled = none
  frames : X.A.frames = some X.stack
  stk : X.stack = X.outer ∨ (X.stack = X.env :: X.outer ∧ X.env.frame = some X.env.locals)
  exf : ∀ b ∈ X.ex, b ≠ X.env.locals ∧ ∀ x c, X.env.cells.lookup x = some c → c ≠ b
  bs : ∀ b o, X.base.get? b = some o → X.s₀.heap.get? b = some o ∧ X.H₀ b = none
  bsz : X.base.objs.size ≤ X.s₀.heap.objs.size
  noex : ∀ b o, X.base.get? b = some o → b ∉ X.ex
  exfs : ∀ b ∈ X.ex, b ∉ X.fs
  funs : X.s₀.heap.FunFrames X.base X.outer
  frf : ∀ b ∈ X.fs, X.H₀ b = none
structure Inv (X : Cx) (pins : List (Addr × Obj)) (σ : List (Option V)) (H : Hp) (s : Shared) : Prop where
  ok : X.Ok
  os : s.os = X.s₀.os
  bare : AllBare s.gens
  base : Un X.fs X.ex X.H₀ H X.s₀.heap s.heap
  loc : ∃ m, s.heap.Ns X.env.locals m ∧ ∀ (i : Nat) (x : Str) (v : V), X.N[i]? = some x → σ[i]? = some (some v) → Vis X.env.scope x → ∃ u, RelV v u ∧ Look X.env s.heap m x u
  cell : ∀ x c, X.env.cells.lookup x = some c → ∃ v, s.heap.IsCell c v
  free : H X.env.locals = none
  freeC : ∀ x c, X.env.cells.lookup x = some c → H c = none
  pin : ∀ p ∈ X.pn ++ pins, s.heap.get? p.1 = some p.2 ∧ H p.1 = none ∧ p.1 ≠ X.env.locals ∧ p.1 ∉ X.fs ∧ ∀ v, p.2.data ≠ .cell v
  hok : HOk X.prog X.w H s.heap
  len : σ.length = X.N.length
section
variable {X : Cx} {pins : List (Addr × Obj)} {σ : List (Option V)} {H H' : Hp} {s : Shared} {h' : Heap}
theorem Cx.Ok.nofr (ok : X.Ok) {b : Addr} {o : Obj} (e : X.base.get? b = some o) : b ∉ X.fs := fun hb => by
  have := (ok.funs.mem hb).1
  rw [e] at this; cases this
theorem Inv.bs (I : Inv X pins σ H s) : ∀ b o, X.base.get? b = some o → s.heap.get? b = some o ∧ H b = none := fun b o e =>
  ⟨I.base.keep b o (I.ok.bs b o e).1 (I.ok.bs b o e).2 (I.ok.nofr e) (I.ok.noex b o e), I.base.free b o (I.ok.bs b o e).1 (I.ok.bs b o e).2 (I.ok.noex b o e)⟩
theorem Inv.bk (I : Inv X pins σ H s) : ∀ b o, X.base.get? b = some o → s.heap.get? b = some o := fun b o e => (I.bs b o e).1
theorem Inv.mod (I : Inv X pins σ H s) : Mod X.K X.mg X.base := I.ok.mod
theorem Inv.kIn (I : Inv X pins σ H s) : X.K.In s.heap := I.ok.mod.kin.keeps I.bk
theorem Inv.lt (I : Inv X pins σ H s) : X.env.locals < s.heap.objs.size := let ⟨_, hn, _⟩ := I.loc; hn.lt
theorem Inv.sz (I : Inv X pins σ H s) : X.s₀.heap.objs.size ≤ s.heap.objs.size := Nat.le_trans I.ok.above (Nat.le_of_lt I.lt)
theorem Inv.nofs (I : Inv X pins σ H s) {a : Addr} (h : s.heap.objs.size ≤ a) : a ∉ X.fs := fun hb => by
  obtain ⟨_, o, ho, _⟩ := I.ok.funs.mem hb
  exact absurd (Nat.lt_of_lt_of_le (Heap.lt_size ho) (Nat.le_trans I.sz h)) (Nat.lt_irrefl _)
theorem Inv.cne (I : Inv X pins σ H s) : ∀ x c, X.env.cells.lookup x = some c → c ≠ X.env.locals := fun x c e z => by
  obtain ⟨v, o, ho, hd⟩ := I.cell x c e
  obtain ⟨m, ⟨o', es, ep, ho', hd', _⟩, _⟩ := I.loc
  rw [z, ho'] at ho; cases ho; rw [hd'] at hd; cases hd
theorem Inv.funs (I : Inv X pins σ H s) : s.heap.FunFrames X.base X.outer := by
  have all : ∀ (l : List Env), (∀ b ∈ frs l, b ∈ X.fs) → X.s₀.heap.FunFrames X.base l → s.heap.FunFrames X.base l := by
    intro l
    induction l with
    | nil => intro _ _; trivial
    | cons env r ih =>
      intro hs hl
      obtain ⟨hk, ⟨L, o, hf, hn, ho, hd⟩, hr⟩ := hl
      have hL : L ∈ X.fs := hs L (by unfold frs; rw [List.filterMap_cons, hf]; exact List.mem_cons_self)
      obtain ⟨sl, e⟩ := I.base.slot L o ho (I.ok.frf L hL) hL fun z => I.ok.exfs L z hL
      exact ⟨hk, ⟨L, _, hf, hn, e, hd⟩, ih (fun b hb => hs b (by unfold frs; rw [List.filterMap_cons, hf]; exact List.mem_cons_of_mem _ hb)) hr⟩
  exact all X.outer (fun _ hb => hb) I.ok.funs
theorem Inv.stack (I : Inv X pins σ H s) : s.heap.FunFrames X.base X.stack := by
  rcases I.ok.stk with e | ⟨e, hf⟩
  · rw [e]; exact I.funs
  · rw [e]
    obtain ⟨m, hn, _⟩ := I.loc
    refine .cons (by rw [I.ok.kind]; decide) hf hn ?_ I.funs
    exact Heap.get?_none_of_le (Nat.le_trans I.ok.bsz I.ok.above)
theorem Inv.stkSub (I : Inv X pins σ H s) : ∀ b ∈ frs X.stack, b ∈ X.env.locals :: X.fs := fun b hb => by
  rcases I.ok.stk with e | ⟨e, hf⟩
  · rw [e] at hb; exact List.mem_cons_of_mem _ hb
  · rw [e] at hb
    unfold frs at hb
    rw [List.filterMap_cons, hf] at hb
    exact hb
theorem Inv.stkFree (I : Inv X pins σ H s) : ∀ b ∈ frs X.stack, H b = none := fun b hb => by
  rcases List.mem_cons.mp (I.stkSub b hb) with e | hb
  · rw [e]; exact I.free
  · obtain ⟨_, o, ho, _⟩ := I.ok.funs.mem hb
    exact I.base.free b o ho (I.ok.frf b hb) fun z => I.ok.exfs b z hb
theorem Inv.step {g' : Array GenState} {t' : Nat} {d' : Drawn} {ch : List Addr} (I : Inv X pins σ H s)
    (hch : ∀ b ∈ ch, (b ∈ X.ex ∨ X.s₀.heap.objs.size ≤ b) ∧ b ≠ X.env.locals ∧ (∀ x c, X.env.cells.lookup x = some c → c ≠ b) ∧ ∀ p ∈ X.pn ++ pins, p.1 ≠ b)
    (keep : ∀ b o, b ≠ X.env.locals → b ∉ X.fs → b ∉ ch → s.heap.get? b = some o → H b = none → h'.get? b = some o)
    (slot : ∀ b o, b ≠ X.env.locals → b ∈ X.fs → b ∉ ch → s.heap.get? b = some o → H b = none → ∃ sl, h'.get? b = some { o with slots := sl }) (free : ∀ b o, b ∉ ch → s.heap.get? b = some o → H b = none → H' b = none)
    (there : ∀ b o, b ∉ ch → s.heap.get? b = some o → ∃ o', h'.get? b = some o')
    (tups : ∀ b xs, H b = some (.tup xs) → H' b = some (.tup xs)) (frzs : ∀ b o u, H b = some (.frz o u) → H' b = some (.frz o u)) (tbls : ∀ b ps, H b = some (.tbl ps) → ∃ more, H' b = some (.tbl (ps ++ more)))
    (ns : ∀ m, s.heap.Ns X.env.locals m → h'.Ns X.env.locals m) (hok : HOk X.prog X.w H' h') (hg : AllBare g') :
    Inv X pins σ H' { s with heap := h', gens := g', drawn := d', toks := t' } := by
  have neL : ∀ b o, X.s₀.heap.get? b = some o → b ≠ X.env.locals := fun b o e => Nat.ne_of_lt (Nat.lt_of_lt_of_le (Heap.lt_size e) I.ok.above)
  have neC : ∀ b o, X.s₀.heap.get? b = some o → b ∉ X.ex → b ∉ ch := fun b o e hx hb => by
    rcases (hch b hb).1 with z | z
    · exact hx z
    · exact absurd (Nat.lt_of_lt_of_le (Heap.lt_size e) z) (Nat.lt_irrefl _)
  have cellK : ∀ x c, X.env.cells.lookup x = some c → ∀ v, s.heap.IsCell c v → h'.IsCell c v := fun x c e v ⟨o, ho, hd⟩ => by
    have nch : c ∉ ch := fun z => (hch c z).2.2.1 x c e rfl
    by_cases hc : c ∈ X.fs
    · obtain ⟨sl, q⟩ := slot c o (I.cne x c e) hc nch ho (I.freeC x c e)
      exact ⟨_, q, hd⟩
    · exact ⟨o, keep c o (I.cne x c e) hc nch ho (I.freeC x c e), hd⟩
  refine ⟨I.ok, I.os, hg, ⟨fun b o e n hb hx => ?_, fun b o e n hb hx => ?_, fun b o e n hx => ?_, fun b o e hx => ?_, fun b xs e => tups b xs (I.base.tups b xs e), fun b o xs e => frzs b o xs (I.base.frzs b o xs e), fun b ps e => ?_⟩, ?_, fun x c e => ?_, ?_, fun x c e => ?_, fun p hp => ?_, hok, I.len⟩
  · exact keep b o (neL b o e) hb (neC b o e hx) (I.base.keep b o e n hb hx) (I.base.free b o e n hx)
  · obtain ⟨sl, e1⟩ := I.base.slot b o e n hb hx
    obtain ⟨sl', e2⟩ := slot b _ (neL b o e) hb (neC b o e hx) e1 (I.base.free b o e n hx)
    exact ⟨sl', e2⟩
  · obtain ⟨o', e1⟩ := I.base.there b o e hx
    exact free b o' (neC b o e hx) e1 (I.base.free b o e n hx)
  · obtain ⟨o', e1⟩ := I.base.there b o e hx
    exact there b o' (neC b o e hx) e1
  · obtain ⟨m1, e1⟩ := I.base.tbls b ps e
    obtain ⟨m2, e2⟩ := tbls b _ e1
    exact ⟨m1 ++ m2, by rw [e2, Array.append_assoc]⟩
  · obtain ⟨m, hn, hl⟩ := I.loc
    refine ⟨m, ns m hn, fun i x v e1 e2 e3 => ?_⟩
    obtain ⟨u, r, l⟩ := hl i x v e1 e2 e3
    refine ⟨u, r, ?_⟩
    rcases l with l | ⟨k, c, e, z⟩
    · exact .inl l
    · exact .inr ⟨k, c, e, cellK x c e _ z⟩
  · obtain ⟨v, z⟩ := I.cell x c e
    exact ⟨v, cellK x c e v z⟩
  · obtain ⟨m, ⟨o, _, _, ho, _⟩, _⟩ := I.loc
    exact free _ o (fun z => (hch _ z).2.1 rfl) ho I.free
  · obtain ⟨v, o, ho, hd⟩ := I.cell x c e
    exact free c o (fun z => (hch c z).2.2.1 x c e rfl) ho (I.freeC x c e)
  · obtain ⟨e, n, ne, nf, d⟩ := I.pin p hp
    have nch : p.1 ∉ ch := fun z => (hch p.1 z).2.2.2 p hp rfl
    exact ⟨keep p.1 p.2 ne nf nch e n, free p.1 p.2 nch e n, ne, nf, d⟩
theorem Inv.un {t' : Nat} (I : Inv X pins σ H s) (u : Un X.fs [] H H' s.heap h') (hok : HOk X.prog X.w H' h') : Inv X pins σ H' { s with heap := h', toks := t' } := by
  obtain ⟨m, ⟨o, es, ep, ho, r⟩, _⟩ := id I.loc
  obtain ⟨sl, hL⟩ := u.any ho I.free (by simp)
  exact I.step (g' := s.gens) (d' := s.drawn) (ch := []) (fun _ z => nomatch z) (fun b o _ hb _ e n => u.keep b o e n hb (by simp)) (fun b o _ hb _ e n => u.slot b o e n hb (by simp)) (fun b o _ e n => u.free b o e n (by simp)) (fun b o _ e => u.there b o e (by simp)) u.tups u.frzs u.tbls (fun m' hm => by
    obtain ⟨o', es', ep', ho', r'⟩ := hm
    rw [ho] at ho'; cases ho'
    exact ⟨_, es', ep', hL, r'⟩) hok I.bare
theorem Inv.call {g' : Array GenState} {t' : Nat} {d' : Drawn} {ch : List Addr} (I : Inv X pins σ H s) (u : Un (frs X.stack) ch H H' s.heap h') (hok : HOk X.prog X.w H' h') (hg : AllBare g')
    (hch : ∀ b ∈ ch, (b ∈ X.ex ∨ X.s₀.heap.objs.size ≤ b) ∧ b ≠ X.env.locals ∧ (∀ x c, X.env.cells.lookup x = some c → c ≠ b) ∧ ∀ p ∈ X.pn ++ pins, p.1 ≠ b) :
    Inv X pins σ H' { s with heap := h', gens := g', drawn := d', toks := t' } := by
  obtain ⟨m, ⟨o, es, ep, ho, r⟩, _⟩ := id I.loc
  obtain ⟨sl, hL⟩ := u.any ho I.free fun z => (hch _ z).2.1 rfl
  exact I.step (ch := ch) hch (fun b o hL hb hc e n => u.keep b o e n (fun z => (List.mem_cons.mp (I.stkSub b z)).elim hL hb) hc) (fun b o _ _ hc e n => u.any e n hc) (fun b o hc e n => u.free b o e n hc) (fun b o hc e => u.there b o e hc) u.tups u.frzs u.tbls (fun m' hm => by
    obtain ⟨o', es', ep', ho', r'⟩ := hm
    rw [ho] at ho'; cases ho'
    exact ⟨_, es', ep', hL, r'⟩) hok hg
theorem Inv.turned {t' : Nat} {it : Addr} (I : Inv X pins σ H s) (k : ∀ b o, b ≠ it → s.heap.get? b = some o → h'.get? b = some o) (hn : H it = none) (hL : it ≠ X.env.locals)
    (h1 : it ∈ X.ex ∨ X.s₀.heap.objs.size ≤ it) (h2 : ∀ x c, X.env.cells.lookup x = some c → c ≠ it) (h3 : ∀ p ∈ X.pn ++ pins, p.1 ≠ it) : Inv X pins σ H { s with heap := h', toks := t' } := by
  have nit : ∀ b u, H b = some u → b ≠ it := fun b u e z => by rw [z, hn] at e; cases e
  refine I.step (g' := s.gens) (d' := s.drawn) (ch := [it]) (fun b hb => ?_) (fun b o _ _ hc e _ => k b o (fun z => hc (by simp [z])) e) (fun b o _ _ hc e _ => ⟨o.slots, k b o (fun z => hc (by simp [z])) e⟩) (fun _ _ _ _ n => n)
    (fun b o hc e => ⟨o, k b o (fun z => hc (by simp [z])) e⟩) (fun _ _ e => e) (fun _ _ _ e => e) (fun b ps e => ⟨#[], by rw [e]; simp⟩) (fun m hm => ?_) (fun b u e => ?_) I.bare
  · have e : b = it := by simpa using hb
    subst e
    exact ⟨h1, hL, h2, h3⟩
  · obtain ⟨o, es, ep, ho, r⟩ := hm
    exact ⟨o, es, ep, k _ o (Ne.symm hL) ho, r⟩
  · refine (I.hok b u e).stay (fun c v hc q => k c v ?_ q) (fun _ q => q) fun _ _ q => q
    rcases hc with z | z
    · rw [z]; exact nit b u e
    · exact nit c _ z
theorem Inv.tok (I : Inv X pins σ H s) (t : Nat) : Inv X pins σ H { s with toks := t } := I.un (h' := s.heap) (t' := t) Un.refl I.hok
theorem Inv.kept {t' : Nat} (I : Inv X pins σ H s) (k : ∀ b u, s.heap.get? b = some u → h'.get? b = some u) : Inv X pins σ H { s with heap := h', toks := t' } := I.un (Un.kept k) (I.hok.kept k)
theorem Inv.laid {a : Addr} {o : HO} {t' : Nat} (I : Inv X pins σ H s) (k : ∀ b u, s.heap.get? b = some u → h'.get? b = some u) (hp : s.heap.objs.size ≤ a) (new : ObjOk X.prog X.w (upd H a o) h' a o) :
    Inv X pins σ (upd H a o) { s with heap := h', toks := t' } := I.un (Un.laid k hp (I.hok.fresh hp)) (I.hok.laid k hp new)
theorem Inv.write {x e : Addr} {o : HO} {t' : Nat} (I : Inv X pins σ H s) (mu : Mut (H x)) (he : e = x ∨ H e = some (.own x)) (k : ∀ b u, b ≠ e → s.heap.get? b = some u → h'.get? b = some u) (heo : ∃ u, h'.get? e = some u)
    (new : ObjOk X.prog X.w (upd H x o) h' x o) : Inv X pins σ (upd H x o) { s with heap := h', toks := t' } := I.un (Un.write mu he k heo) (I.hok.write mu he k heo new)
theorem Inv.pins_of {pins' : List (Addr × Obj)} (I : Inv X pins σ H s) (h : ∀ p ∈ pins', s.heap.get? p.1 = some p.2 ∧ H p.1 = none ∧ p.1 ≠ X.env.locals ∧ p.1 ∉ X.fs ∧ ∀ v, p.2.data ≠ .cell v) : Inv X pins' σ H s :=
  ⟨I.ok, I.os, I.bare, I.base, I.loc, I.cell, I.free, I.freeC, fun p hp => (List.mem_append.mp hp).elim (fun z => I.pin p (List.mem_append_left _ z)) (h p), I.hok, I.len⟩
theorem nodup_ix {N : List Str} (hN : N.Nodup) {i j : Nat} {x : Str} (a : N[i]? = some x) (b : N[j]? = some x) : i = j := by
  obtain ⟨h1, e1⟩ := List.getElem?_eq_some_iff.mp a
  obtain ⟨h2, e2⟩ := List.getElem?_eq_some_iff.mp b
  exact (List.getElem_inj hN).mp (e1.trans e2.symm)
theorem store_ok2 {M : Model} {A : Around} {E : Value → Shared → Prop} {i : Nat} {x : Str} {v : V} {u : Value} {Q : Unit → Shared → Prop} (I : Inv X pins σ H s) (hN : X.N.Nodup) (hi : X.N[i]? = some x) (hx : Loc X.env.scope x) (r : RelV v u)
    (h : ∀ s', Inv X pins (σ.set i (some v)) H s' → (∃ a, Heap.SameBut a s.heap s'.heap ∧ (a = X.env.locals ∨ X.env.cells.lookup x = some a)) → Q () s') (hf : X.fn x = true ∨ X.env.scope.names.lookup x = some .local := by first | exact .inl rfl | exact .inr rfl | assumption) : wpAny M A (storeName X.env x u) Q E s := by
  obtain ⟨m, hn, hl⟩ := id I.loc
  have hcls : (X.env.scope.kind == .class || (X.env.scope.kind == .module && X.env.locals != X.env.globals)) = false := by rw [I.ok.kind]; rfl
  have hiσ : i < σ.length := by rw [I.len]; exact (List.getElem?_eq_some_iff.mp hi).1
  have cne := I.cne
  have tracked : ∀ {a : Addr} {h' : Heap}, (∃ o, s.heap.get? a = some o ∧ H a = none) → Heap.SameBut a s.heap h' → HOk X.prog X.w H h' := fun {a h'} ha hs b ob e => by
    obtain ⟨_, _, hfree⟩ := ha
    refine (I.hok b ob e).stay (fun c w' hc q => (hs.2 c ?_).trans q) (fun _ q => q) fun _ _ q => q
    rintro rfl
    rcases hc with rfl | hc
    · rw [hfree] at e; cases e
    · rw [hfree] at hc; cases hc
  rcases hx with hk | hk
  · refine wpAny_storeName_local hk hn (fun h' hn' hs => ?_) hcls
    obtain ⟨oL, _, _, hoL, _⟩ := id hn
    refine h _ ⟨I.ok, I.os, I.bare, ⟨fun b o e n hb hx => ?_, fun b o e n hb hx => ?_, I.base.free, fun b o e hx => ?_, I.base.tups, I.base.frzs, I.base.tbls⟩, ⟨_, hn', fun j y v' e1 e2 e3 => ?_⟩, fun y c e => ?_, I.free, I.freeC, fun p hp => ?_, tracked ⟨oL, hoL, I.free⟩ hs, by simpa using I.len⟩ ⟨_, hs, .inl rfl⟩
    · exact (hs.2 b (Nat.ne_of_lt (Nat.lt_of_lt_of_le (Heap.lt_size e) I.ok.above))).trans (I.base.keep b o e n hb hx)
    · obtain ⟨sl, e1⟩ := I.base.slot b o e n hb hx
      exact ⟨sl, (hs.2 b (Nat.ne_of_lt (Nat.lt_of_lt_of_le (Heap.lt_size e) I.ok.above))).trans e1⟩
    · obtain ⟨o', e1⟩ := I.base.there b o e hx
      exact ⟨o', (hs.2 b (Nat.ne_of_lt (Nat.lt_of_lt_of_le (Heap.lt_size e) I.ok.above))).trans e1⟩
    · by_cases hj : j = i
      · subst hj
        rw [hi] at e1; cases e1
        rw [List.getElem?_set_self hiσ] at e2
        cases e2
        exact ⟨u, r, .inl ⟨hk, by simp⟩⟩
      · rw [List.getElem?_set_ne (Ne.symm hj)] at e2
        obtain ⟨u', r', q⟩ := hl j y v' e1 e2 e3
        refine ⟨u', r', ?_⟩
        rcases q with ⟨k, e⟩ | ⟨k, c, e, z⟩
        · refine .inl ⟨k, ?_⟩
          have : y ≠ x := fun e => hj (nodup_ix hN e1 (e ▸ hi))
          simp [this, e]
        · exact .inr ⟨k, c, e, z.sameBut hs (cne y c e)⟩
    · obtain ⟨w', z⟩ := I.cell y c e
      exact ⟨w', z.sameBut hs (cne y c e)⟩
    · obtain ⟨e, n, ne, nf, d⟩ := I.pin p hp
      exact ⟨(hs.2 p.1 ne).trans e, n, ne, nf, d⟩
  · have hfn : X.fn x = true := by
      rcases hf with z | z
      · exact z
      · rw [z] at hk; cases hk
    obtain ⟨c, hc⟩ := I.ok.has x (.inl hk)
    obtain ⟨w', z⟩ := I.cell x c hc
    refine wpAny_storeName_cell I.ok.kind hk hc z (fun h' hc' hs => ?_)
    obtain ⟨oc, hoc, hocd⟩ := id z
    refine h { s with heap := h' } ⟨I.ok, I.os, I.bare, ⟨fun b o e n hb hx => ?_, fun b o e n hb hx => ?_, I.base.free, fun b o e hx => ?_, I.base.tups, I.base.frzs, I.base.tbls⟩, ⟨m, hn.sameBut hs (Ne.symm (cne x c hc)), fun j y v' e1 e2 e3 => ?_⟩, fun y c' e => ?_, I.free, I.freeC, fun p hp => ?_, tracked ⟨oc, hoc, I.freeC x c hc⟩ hs, by simpa using I.len⟩ ⟨c, hs, .inr hc⟩
    · exact (hs.2 b (Nat.ne_of_lt (Nat.lt_of_lt_of_le (Heap.lt_size e) (I.ok.cab x c hfn hc)))).trans (I.base.keep b o e n hb hx)
    · obtain ⟨sl, e1⟩ := I.base.slot b o e n hb hx
      exact ⟨sl, (hs.2 b (Nat.ne_of_lt (Nat.lt_of_lt_of_le (Heap.lt_size e) (I.ok.cab x c hfn hc)))).trans e1⟩
    · obtain ⟨o', e1⟩ := I.base.there b o e hx
      exact ⟨o', (hs.2 b (Nat.ne_of_lt (Nat.lt_of_lt_of_le (Heap.lt_size e) (I.ok.cab x c hfn hc)))).trans e1⟩
    · by_cases hj : j = i
      · subst hj
        rw [hi] at e1; cases e1
        rw [List.getElem?_set_self hiσ] at e2
        cases e2
        exact ⟨u, r, .inr ⟨.inl hk, c, hc, hc'⟩⟩
      · rw [List.getElem?_set_ne (Ne.symm hj)] at e2
        obtain ⟨u', r', q⟩ := hl j y v' e1 e2 e3
        refine ⟨u', r', ?_⟩
        rcases q with q | ⟨k, c', e, z'⟩
        · exact .inl q
        · refine .inr ⟨k, c', e, z'.sameBut hs ?_⟩
          rintro rfl
          exact hj (nodup_ix hN e1 (I.ok.inj _ _ _ e hc ▸ hi))
    · by_cases hcc : c' = c
      · subst hcc; exact ⟨_, hc'⟩
      · obtain ⟨w2, z2⟩ := I.cell y c' e
        exact ⟨w2, z2.sameBut hs hcc⟩
    · obtain ⟨e, n, ne, nf, d⟩ := I.pin p hp
      refine ⟨(hs.2 p.1 ?_).trans e, n, ne, nf, d⟩
      intro q
      rw [q, hoc] at e
      have q' : oc = p.2 := Option.some.inj e
      exact d w' (by rw [← q']; exact hocd)
theorem store_ok {M : Model} {A : Around} {E : Value → Shared → Prop} {i : Nat} {x : Str} {v : V} {u : Value} {Q : Unit → Shared → Prop} (I : Inv X pins σ H s) (hN : X.N.Nodup) (hi : X.N[i]? = some x) (hx : Loc X.env.scope x) (r : RelV v u)
    (h : ∀ s', Inv X pins (σ.set i (some v)) H s' → Q () s') (hf : X.fn x = true ∨ X.env.scope.names.lookup x = some .local := by first | exact .inl rfl | exact .inr rfl | assumption) : wpAny M A (storeName X.env x u) Q E s :=
  store_ok2 I hN hi hx r (fun s' I' _ => h s' I') hf
theorem Inv.call' {s' : Shared} {ch : List Addr} (I : Inv X pins σ H s) (ho : s'.os = s.os) (u : Un (frs X.stack) ch H H' s.heap s'.heap) (hok : HOk X.prog X.w H' s'.heap) (hg : AllBare s'.gens)
    (hch : ∀ b ∈ ch, (b ∈ X.ex ∨ X.s₀.heap.objs.size ≤ b) ∧ b ≠ X.env.locals ∧ (∀ x c, X.env.cells.lookup x = some c → c ≠ b) ∧ ∀ p ∈ X.pn ++ pins, p.1 ≠ b) : Inv X pins σ H' s' := by
  obtain ⟨h', g', d', t', o'⟩ := s'
  have e : o' = s.os := ho
  subst e
  exact I.call (g' := g') (t' := t') (d' := d') u hok hg hch
end
abbrev XK := Value → Option Addr → Hp → Prop
abbrev St := List (Option V)
abbrev VK := V → Hp → Prop
abbrev TE := St → Hp → VK → Prop
abbrev TT := St → Hp → (Bool → Hp → Prop) → Prop
abbrev TA := St → Hp → (List V → Hp → Prop) → Prop
structure Ends where
  nx : St → Hp → Prop
  rt : VK
  bk : St → Hp → Prop := fun _ _ => False
  ct : St → Hp → Prop := fun _ _ => False
abbrev TS := Ends → St → Hp → Prop
def EP (X : Cx) (pins : List (Addr × Obj)) (σ : St) (Q : VK) (u : Value) (s' : Shared) : Prop := ∃ v H', Inv X pins σ H' s' ∧ RelV v u ∧ Q v H'
def TP (X : Cx) (pins : List (Addr × Obj)) (σ : St) (Q : Bool → Hp → Prop) (b : Bool) (s' : Shared) : Prop := ∃ H', Inv X pins σ H' s' ∧ Q b H'
def AP (X : Cx) (pins : List (Addr × Obj)) (σ : St) (Q : List V → Hp → Prop) (us : List Value) (s' : Shared) : Prop := ∃ vs H', Inv X pins σ H' s' ∧ Vals vs us ∧ Q vs H'
def SP (X : Cx) (pins : List (Addr × Obj)) (D : Ends) (f : Flow) (s' : Shared) : Prop :=
  match f with
  | .next => ∃ σ' H', Inv X pins σ' H' s' ∧ D.nx σ' H'
  | .brk => ∃ σ' H', Inv X pins σ' H' s' ∧ D.bk σ' H'
  | .cont => ∃ σ' H', Inv X pins σ' H' s' ∧ D.ct σ' H'
  | .ret u => ∃ v σ' H', Inv X pins σ' H' s' ∧ RelV v u ∧ D.rt v H'
def PE (X : Cx) (e : Expr) (t : TE) : Prop :=
  ∀ (pins : List (Addr × Obj)) (s : Shared) (σ : St) (H : Hp) (Q : VK), Inv X pins σ H s → t σ H Q → wpAny (model X.prog X.w) X.A (eval e X.env) (EP X pins σ Q) X.xe s
def PT (X : Cx) (e : Expr) (t : TT) : Prop :=
  ∀ (pins : List (Addr × Obj)) (s : Shared) (σ : St) (H : Hp) (Q : Bool → Hp → Prop), Inv X pins σ H s → t σ H Q → wpAny (model X.prog X.w) X.A (isTrue e X.env (eval e X.env)) (TP X pins σ Q) X.xe s
def PW (X : Cx) (e : Expr) (t : TT) : Prop :=
  ∀ (whole : Sem Value) (pins : List (Addr × Obj)) (s : Shared) (σ : St) (H : Hp) (Q : Bool → Hp → Prop), Inv X pins σ H s → t σ H Q → wpAny (model X.prog X.w) X.A (isTrue e X.env whole) (TP X pins σ Q) X.xe s
theorem PW.pt {X : Cx} {e : Expr} {t : TT} (h : PW X e t) : PT X e t := h _
def PA (X : Cx) (es : List Expr) (t : TA) : Prop :=
  ∀ (pos : Pos) (pins : List (Addr × Obj)) (s : Shared) (σ : St) (H : Hp) (Q : List V → Hp → Prop), Inv X pins σ H s → t σ H Q → wpAny (model X.prog X.w) X.A (spliced (backTo pos (starEach es X.env))) (AP X pins σ Q) X.xe s
def PS (X : Cx) (st : Stmt) (t : TS) : Prop :=
  ∀ (pins : List (Addr × Obj)) (s : Shared) (σ : St) (H : Hp) (D : Ends), Inv X pins σ H s → t D σ H → wpAny (model X.prog X.w) X.A (exec st X.env) (SP X pins D) X.xe s
def PSs (X : Cx) (st : List Stmt) (t : TS) : Prop :=
  ∀ (pins : List (Addr × Obj)) (s : Shared) (σ : St) (H : Hp) (D : Ends), Inv X pins σ H s → t D σ H → wpAny (model X.prog X.w) X.A (execs st X.env) (SP X pins D) X.xe s
theorem thn {α : Type} {t : Sem α} {Q Q' : α → Shared → Prop} {M : Model} {A : Around} {E : Value → Shared → Prop} {s : Shared} (h : wpAny M A t Q E s) (hQ : ∀ a s, Q a s → Q' a s) : wpAny M A t Q' E s := wpAny_mono h hQ fun _ _ x => x
theorem thnE {t : Sem Value} {X : Cx} {pins : List (Addr × Obj)} {σ : St} {Q : VK} {Q' : Value → Shared → Prop} {M : Model} {A : Around} {E : Value → Shared → Prop} {s : Shared} (h : wpAny M A t (EP X pins σ Q) E s) (hQ : ∀ u s v H, Inv X pins σ H s → RelV v u → Q v H → Q' u s) : wpAny M A t Q' E s := thn h fun u s ⟨v, H, I, r, q⟩ => hQ u s v H I r q
theorem thnA {t : Sem (List Value)} {X : Cx} {pins : List (Addr × Obj)} {σ : St} {Q : List V → Hp → Prop} {Q' : List Value → Shared → Prop} {M : Model} {A : Around} {E : Value → Shared → Prop} {s : Shared} (h : wpAny M A t (AP X pins σ Q) E s) (hQ : ∀ u s v H, Inv X pins σ H s → Vals v u → Q v H → Q' u s) : wpAny M A t Q' E s := thn h fun u s ⟨v, H, I, r, q⟩ => hQ u s v H I r q
theorem thnT {t : Sem Bool} {X : Cx} {pins : List (Addr × Obj)} {σ : St} {Q : Bool → Hp → Prop} {Q' : Bool → Shared → Prop} {M : Model} {A : Around} {E : Value → Shared → Prop} {s : Shared} (h : wpAny M A t (TP X pins σ Q) E s) (hQ : ∀ u s H, Inv X pins σ H s → Q u H → Q' u s) : wpAny M A t Q' E s := thn h fun u s ⟨H, I, q⟩ => hQ u s H I q
end L2
namespace L2
open PySem PySem.Spec PyProof.Rows
section
variable {X : Cx}
def tVar (i : Nat) : TE := fun σ H Q => ∃ v, σ[i]? = some (some v) ∧ Q v H
def tC (v : V) : TE := fun _ H Q => Q v H
theorem pe_var {i : Nat} {x : Str} {pos : Pos} (hN : X.N[i]? = some x) (hv : Vis X.env.scope x) (hd : (x == ("__debug__" : Str)) = false := by decide) (hcd : (x == ("__classdict__" : Str)) = false := by decide) : PE X (.Name x pos) (tVar i) := by
  intro pins s σ H Q I h
  obtain ⟨v, e, h⟩ := h
  obtain ⟨m, hn, hl⟩ := I.loc
  obtain ⟨u, r, l⟩ := hl i x v hN e hv
  have fin : EP X pins σ Q u s := ⟨v, H, I, r, h⟩
  rcases l with ⟨hk, hm⟩ | ⟨hk, c, hc, hcell⟩
  · exact wpAny_Name (wpAny_loadName_local I.ok.kind hk hn hm fin) hd
  · rcases hk with hk | hk
    · exact wpAny_Name (wpAny_loadName_cell I.ok.kind hk hc hcell fin) hd
    · exact wpAny_Name (wpAny_loadName_free I.ok.kind hk hc hcell fin hcd) hd
theorem pe_int {i j pos} : PE X (.Constant (.int i) j pos) (tC (.int i)) := fun _ _ _ H _ I h => wpAny_Constant_int ⟨.int i, H, I.tok _, ⟨_, rfl⟩, h⟩
theorem pe_bl {b j pos} : PE X (.Constant (.bool b) j pos) (tC (.bl b)) := fun _ _ _ H _ I h => Constant_bool ⟨.bl b, H, I, rfl, h⟩
theorem pe_non {j pos} : PE X (.Constant .none j pos) (tC .non) := fun _ _ _ H _ I h => Constant_none ⟨.non, H, I, rfl, h⟩
theorem pe_str {x j pos} : PE X (.Constant (.str x) j pos) (tC (.str x)) := fun _ _ _ H _ I h => Calls.Constant_str ⟨.str x, H, I.tok _, ⟨_, rfl⟩, h⟩
def Gl (X : Cx) (x : Str) : Prop := X.env.kindOf x = some .globalImplicit
theorem ld_glob {E : Value → Shared → Prop} {pins : List (Addr × Obj)} {s : Shared} {σ : St} {H : Hp} {x : Str} {u : Value} {pos : Pos} {Q : Value → Shared → Prop} (I : Inv X pins σ H s) (hg : Gl X x) (hm : X.mg x = some u) (h : Q u s)
    (hd : (x == ("__debug__" : Str)) = false := by decide) : wpAny (model X.prog X.w) X.A (eval (.Name x pos) X.env) Q E s :=
  Calls.Name_function_global I.ok.kind hg (Calls.loadGlobal_global (by rw [I.ok.glob]; exact I.mod.glob.keeps I.bk) hm h) hd
theorem ld_blt {E : Value → Shared → Prop} {pins : List (Addr × Obj)} {s : Shared} {σ : St} {H : Hp} {x : Str} {u : Value} {pos : Pos} {Q : Value → Shared → Prop} (I : Inv X pins σ H s) (hg : Gl X x) (hm : X.mg x = none) (hv : bootBuiltins x = some u) (h : Q u s)
    (hn : x ≠ "__name__" := by decide) (hd : (x == ("__debug__" : Str)) = false := by decide) : wpAny (model X.prog X.w) X.A (eval (.Name x pos) X.env) Q E s := by
  obtain ⟨mb, h1, h2⟩ := I.mod.blt
  exact Calls.Name_function_global I.ok.kind hg (Calls.loadGlobal_builtin (by rw [I.ok.glob]; exact I.mod.glob.keeps I.bk) hm (by rw [I.ok.blt]; exact h1.keeps I.bk) ((h2 x hn).trans hv) h) hd
theorem pe_glob {x : Str} {v : V} {u : Value} {pos : Pos} (hg : Gl X x) (hm : X.mg x = some u) (r : RelV v u) (hd : (x == ("__debug__" : Str)) = false := by decide) : PE X (.Name x pos) (tC v) :=
  fun _ _ _ H _ I h => ld_glob I hg hm ⟨v, H, I, r, h⟩ hd
variable {a b : Expr} {ta tb : TE} {pos : Pos}
def PC (X : Cx) (op : CmpOp) (a b : Expr) (t : TE) : Prop :=
  ∀ (pins : List (Addr × Obj)) (s : Shared) (σ : St) (H : Hp) (Q : VK), Inv X pins σ H s → t σ H Q →
    wpAny (model X.prog X.w) X.A (eval a X.env) (fun v s₁ => wpAny (model X.prog X.w) X.A (eval b X.env) (fun u s₂ => wpAny (model X.prog X.w) X.A (compareOp op v u) (EP X pins σ Q) X.xe s₂) X.xe s₁) X.xe s
theorem nobehind (b : Expr) {op : CmpOp} (h : op ≠ .In) (h2 : op ≠ .NotIn) : behindInMarks op b = false := by
  have e1 : (op == CmpOp.In) = false := by cases op <;> first | rfl | exact absurd rfl h
  have e2 : (op == CmpOp.NotIn) = false := by cases op <;> first | rfl | exact absurd rfl h2
  cases b <;> simp [behindInMarks, e1, e2]
def tIsN (ta : TE) : TE := fun σ H Q => ta σ H fun x H1 => Q (.bl (decide (x = .non))) H1
def tNotN (ta : TE) : TE := fun σ H Q => ta σ H fun x H1 => Q (.bl (!decide (x = .non))) H1
theorem RelV.none_iff {x : V} {v : Value} (r : RelV x v) : (v == Value.none) = decide (x = .non) := by
  cases x with
  | non => cases r; rfl
  | bl _ => cases r; rfl
  | int _ => obtain ⟨t, rfl⟩ := r; rfl
  | str _ => obtain ⟨t, rfl⟩ := r; rfl
  | byt _ => obtain ⟨t, rfl⟩ := r; rfl
  | flt _ => obtain ⟨t, rfl⟩ := r; rfl
  | ref _ => cases r; rfl
  | ty _ => cases r; rfl
theorem pc_notN {j pos'} (ha : PE X a ta) : PC X .IsNot a (.Constant .none j pos') (tNotN ta) := by
  intro pins s σ H Q I h
  refine thnE (ha pins s σ H _ I h) fun v s1 x H1 I1 r1 q1 => ?_
  exact Constant_none (isnot_none_gen ⟨.bl _, H1, I1, by rw [r1.none_iff]; rfl, q1⟩)
def tB (t : TE) : TT := fun σ H Q => t σ H fun x H1 => ∃ c, x = .bl c ∧ Q c H1
theorem pt_cmp {op : CmpOp} {t : TE} (h : PC X op a b t) (h1 : behindInMarks op b = false := by first | exact nobehind _ (by decide) (by decide) | rfl) : PT X (.Compare a [op] [b] pos) (tB t) := by
  intro pins s σ H Q I hw
  refine wpAny_isTrue_Compare1 (thn (h pins s σ H _ I hw) fun v s1 h1 => thn h1 fun u s2 h2 => thn h2 fun c s3 ⟨x, H1, I1, r1, q1⟩ => ?_) h1
  obtain ⟨d, rfl, q⟩ := q1
  cases r1
  exact wpAny_truthy_bool ⟨H1, I1, q⟩
theorem pt_val {e : Expr} {t : TE} (h : PE X e t) (he : ∀ whole, isTrue e X.env whole = (do let v ← whole; standAt e.pos; holding [v] (truthy v)) := by intro _; rfl) : PT X e (tB t) := by
  intro pins s σ H Q I hw
  refine isTrue_plain (thnE (h pins s σ H _ I hw) fun v s1 x H1 I1 r1 q1 => ?_) (he _)
  obtain ⟨d, rfl, q⟩ := q1
  cases r1
  exact wpAny_truthy_bool ⟨H1, I1, q⟩
variable {tA tB' : TT} {rest : List Expr}
def tAnd (t u : TT) : TT := fun σ H Q => t σ H fun c H1 => if c = true then u σ H1 Q else Q false H1
def tOr (t u : TT) : TT := fun σ H Q => t σ H fun c H1 => if c = true then Q true H1 else u σ H1 Q
def tNot (t : TT) : TT := fun σ H Q => t σ H fun c H1 => Q (!c) H1
theorem pw_and1 (ha : PT X a tA) : PW X (.BoolOp .And [a] pos) tA := by
  intro wh pins s σ H Q I h
  refine isTrue_and (thn (ha pins s σ H Q I h) fun c s1 e => ?_)
  cases c with
  | true => exact isTrue_and_nil e
  | false => exact e
theorem pw_or1 (ha : PT X a tA) : PW X (.BoolOp .Or [a] pos) tA := by
  intro wh pins s σ H Q I h
  refine isTrue_or (thn (ha pins s σ H Q I h) fun c s1 e => ?_)
  cases c with
  | false => exact isTrue_or_nil e
  | true => exact e
theorem pw_and (ha : PT X a tA) (hb : PW X (.BoolOp .And (b :: rest) pos) tB') : PW X (.BoolOp .And (a :: b :: rest) pos) (tAnd tA tB') := by
  intro wh pins s σ H Q I h
  refine isTrue_and (thnT (ha pins s σ H _ I h) fun c s1 H1 I1 q1 => ?_)
  cases c with
  | true => exact hb wh pins s1 σ H1 Q I1 q1
  | false => exact ⟨H1, I1, q1⟩
theorem pw_or (ha : PT X a tA) (hb : PW X (.BoolOp .Or (b :: rest) pos) tB') : PW X (.BoolOp .Or (a :: b :: rest) pos) (tOr tA tB') := by
  intro wh pins s σ H Q I h
  refine isTrue_or (thnT (ha pins s σ H _ I h) fun c s1 H1 I1 q1 => ?_)
  cases c with
  | true => exact ⟨H1, I1, q1⟩
  | false => exact hb wh pins s1 σ H1 Q I1 q1
theorem pt_not (ha : PT X a tA) : PT X (.UnaryOp .Not a pos) (tNot tA) := by
  intro pins s σ H Q I h
  exact isTrue_not (ha pins s σ H (fun c H1 => Q (!c) H1) I h)
def tAndV (ta tb : TE) : TE := fun σ H Q => ta σ H fun x H1 => ∃ c, x = .bl c ∧ if c = true then tb σ H1 Q else Q (.bl false) H1
def tOrV (ta tb : TE) : TE := fun σ H Q => ta σ H fun x H1 => ∃ c, x = .bl c ∧ if c = true then Q (.bl true) H1 else tb σ H1 Q
def tNotV (ta : TE) : TE := fun σ H Q => ta σ H fun x H1 => ∃ c, x = .bl c ∧ Q (.bl (!c)) H1
def tIf (t : TT) (ta tb : TE) : TE := fun σ H Q => t σ H fun c H1 => if c = true then ta σ H1 Q else tb σ H1 Q
end
end L2
namespace L2
open PySem PySem.Spec PyProof.Rows
def SqL (K : PySem.W.Frag) (H : Hp) (a : Addr) (xs : List V) : Prop :=
  Rd H a (.lst xs) ∨
    ∃ (o : Obj) (its : Array Value) (n : Nat), K.lookup a = some o ∧ o.cls = .type "list" ∧ o.dict = none ∧ o.data = .seq its n ∧ its.size ≤ sizeLine ∧ Vals xs its.toList
def SqT (K : PySem.W.Frag) (H : Hp) (a : Addr) (xs : List V) : Prop :=
  Rd H a (.tup xs) ∨
    ∃ (o : Obj) (its : Array Value) (n : Nat), K.lookup a = some o ∧ o.cls = .type "tuple" ∧ o.data = .seq its n ∧ its.size ≤ sizeLine ∧ Vals xs its.toList
def absV : Value → Option V
  | .none => some .non
  | .bool b => some (.bl b)
  | .int i _ => some (.int i)
  | .str x _ => some (.str x)
  | .bytes b _ => some (.byt b)
  | .float b _ => some (.flt b)
  | .ref a => some (.ref a)
  | .type n => some (.ty n)
  | _ => none
theorem RelV.abs {x : V} {u : Value} (r : RelV x u) : absV u = some x := by
  cases x with
  | non => cases r; rfl
  | bl _ => cases r; rfl
  | int _ => obtain ⟨t, rfl⟩ := r; rfl
  | str _ => obtain ⟨t, rfl⟩ := r; rfl
  | byt _ => obtain ⟨t, rfl⟩ := r; rfl
  | flt _ => obtain ⟨t, rfl⟩ := r; rfl
  | ref _ => cases r; rfl
  | ty _ => cases r; rfl
theorem RelV.inj {x y : V} {u : Value} (r : RelV x u) (q : RelV y u) : x = y := Option.some.inj (r.abs.symm.trans q.abs)
theorem Vals.inj {xs ys : List V} {us : List Value} (h : Vals xs us) (h2 : Vals ys us) : xs = ys := by
  induction h generalizing ys with
  | nil => cases h2; rfl
  | cons r _ ih => cases h2 with | cons r2 t2 => rw [r.inj r2, ih t2]
section
variable {X : Cx} {pins : List (Addr × Obj)} {σ : St} {H : Hp} {s : Shared} {a : Addr} {xs ys : List V}
theorem SqL.of {K : PySem.W.Frag} (h : H a = some (.lst xs)) : SqL K H a xs := .inl (.inl h)
theorem SqT.of {K : PySem.W.Frag} (h : H a = some (.tup xs)) : SqT K H a xs := .inl (.inl h)
theorem Inv.list (I : Inv X pins σ H s) (h : SqL X.K H a xs) : ∃ its : List Value, Vals xs its ∧ PlainL s.heap a its.toArray ∧ xs.length ≤ sizeLine := by
  rcases h with h | ⟨o, its, n, hk, hc, hd, hs, hz, r⟩
  · obtain ⟨z, its, n, r, e⟩ := h.ok I.hok
    exact ⟨its, r, ⟨_, n, e, rfl, rfl, rfl⟩, z⟩
  · refine ⟨its.toList, r, ⟨o, n, I.kIn a o hk, hc, hd, by simpa using hs⟩, ?_⟩
    have e := r.length
    simp only [Array.length_toList] at e
    omega
theorem Inv.tuple (I : Inv X pins σ H s) (h : SqT X.K H a xs) : ∃ its : List Value, Vals xs its ∧ IsTup s.heap a its.toArray ∧ xs.length ≤ sizeLine := by
  rcases h with h | ⟨o, its, n, hk, hc, hs, hz, r⟩
  · obtain ⟨z, its, r, p⟩ := h.ok I.hok
    exact ⟨its, r, p, z⟩
  · refine ⟨its.toList, r, ⟨o, I.kIn a o hk, hc, n, by simpa using hs⟩, ?_⟩
    have e := r.length
    simp only [Array.length_toList] at e
    omega
theorem Inv.list_inj (I : Inv X pins σ H s) (h : SqL X.K H a xs) (h' : SqL X.K H a ys) : xs = ys := by
  obtain ⟨its, r, ⟨o, n, e, _, _, d⟩, _⟩ := I.list h
  obtain ⟨its', r', ⟨o', n', e', _, _, d'⟩, _⟩ := I.list h'
  rw [e] at e'; cases e'
  rw [d] at d'
  injection d' with d1 _
  have : its = its' := by simpa using congrArg Array.toList d1
  subst this
  exact r.inj r'
theorem Inv.tuple_inj (I : Inv X pins σ H s) (h : SqT X.K H a xs) (h' : SqT X.K H a ys) : xs = ys := by
  obtain ⟨its, r, ⟨o, e, _, n, d⟩, _⟩ := I.tuple h
  obtain ⟨its', r', ⟨o', e', _, n', d'⟩, _⟩ := I.tuple h'
  rw [e] at e'; cases e'
  rw [d] at d'
  injection d' with d1 _
  have : its = its' := by simpa using congrArg Array.toList d1
  subst this
  exact r.inj r'
end
abbrev Cx.wish (X : Cx) (E : Value → Shared → Prop) : Cx := { X with xe := E }
abbrev Cx.nox (X : Cx) : Cx := X.wish fun _ _ => False
theorem Cx.Ok.wish {X : Cx} (ok : X.Ok) (E : Value → Shared → Prop) : (X.wish E).Ok :=
  ⟨ok.mod, ok.kind, ok.glob, ok.blt, ok.above, ok.inj, ok.has, ok.cab, ok.hd, ok.frames, ok.stk, ok.exf, ok.bs, ok.bsz, ok.noex, ok.exfs, ok.funs, ok.frf⟩
theorem Cx.Ok.unwish {X : Cx} {E : Value → Shared → Prop} (ok : (X.wish E).Ok) : X.Ok :=
  ⟨ok.mod, ok.kind, ok.glob, ok.blt, ok.above, ok.inj, ok.has, ok.cab, ok.hd, ok.frames, ok.stk, ok.exf, ok.bs, ok.bsz, ok.noex, ok.exfs, ok.funs, ok.frf⟩
section
variable {X : Cx} {pins : List (Addr × Obj)} {σ : St} {H : Hp} {s : Shared} {E : Value → Shared → Prop}
theorem Inv.wish (I : Inv X pins σ H s) (E : Value → Shared → Prop) : Inv (X.wish E) pins σ H s := ⟨I.ok.wish E, I.os, I.bare, I.base, I.loc, I.cell, I.free, I.freeC, I.pin, I.hok, I.len⟩
theorem Inv.unwish (I : Inv (X.wish E) pins σ H s) : Inv X pins σ H s := ⟨I.ok.unwish, I.os, I.bare, I.base, I.loc, I.cell, I.free, I.freeC, I.pin, I.hok, I.len⟩
theorem SP.unwish {D : Ends} {f : Flow} {s' : Shared} (h : SP (X.wish E) pins D f s') : SP X pins D f s' := by
  cases f with
  | next => obtain ⟨σ', H', I, q⟩ := h; exact ⟨σ', H', I.unwish, q⟩
  | brk => obtain ⟨σ', H', I, q⟩ := h; exact ⟨σ', H', I.unwish, q⟩
  | cont => obtain ⟨σ', H', I, q⟩ := h; exact ⟨σ', H', I.unwish, q⟩
  | ret u => obtain ⟨v, σ', H', I, r, q⟩ := h; exact ⟨v, σ', H', I.unwish, r, q⟩
theorem PSs.nox {st : List Stmt} {t : TS} (h : PSs X.nox st t) : PSs X st t := fun pins s σ H D I hw =>
  wpAny_mono (h pins s σ H D (I.wish _) hw) (fun _ _ q => q.unwish) fun _ _ z => False.elim z
end
section
variable {X : Cx} {st : Stmt} {rest : List Stmt} {t u : TS} {e : Expr} {te : TE} {pos : Pos}
def tNext : TS := fun D σ H => D.nx σ H
def tSeq (t u : TS) : TS := fun D σ H => t { D with nx := u D } σ H
theorem pss_nil : PSs X [] tNext := fun _ _ σ H _ I h => wpAny_execs_nil ⟨σ, H, I, h⟩
theorem pss_cons (h1 : PS X st t) (h2 : PSs X rest u) : PSs X (st :: rest) (tSeq t u) := by
  intro pins s σ H D I h
  refine wpAny_execs_cons (thn (h1 pins s σ H { D with nx := u D } I h) fun f s1 q => ?_)
  cases f with
  | next =>
    obtain ⟨σ', H', I', q⟩ := q
    exact h2 pins s1 σ' H' D I' q
  | ret v => exact q
  | brk => exact q
  | cont => exact q
theorem pss_one (h1 : PS X st t) : PSs X [st] t := by
  intro pins s σ H D I h
  refine wpAny_execs_cons (thn (h1 pins s σ H D I h) fun f s1 q => ?_)
  cases f with
  | next => exact wpAny_execs_nil q
  | ret v => exact q
  | brk => exact q
  | cont => exact q
theorem Inv.quiet {pins : List (Addr × Obj)} {σ : St} {H : Hp} {s : Shared} (I : Inv X pins σ H s) : interactive X.env = false := by simp [interactive, I.ok.kind]
def tDrop (te : TE) : TS := fun D σ H => te σ H fun _ H1 => D.nx σ H1
theorem ps_expr (he : PE X e te) (hs : swapsWith e none pos.line X.env = pure false := by rfl) : PS X (.Expr e pos) (tDrop te) := by
  intro pins s σ H D I h
  exact wpAny_Expr_any (thnE (he pins s σ H _ I h) fun v s1 x H1 I1 r1 q1 => ⟨σ, H1, I1, q1⟩) I.quiet hs
def tRet (te : TE) : TS := fun D σ H => te σ H D.rt
theorem ps_ret (he : PE X e te) : PS X (.Return (some e) pos) (tRet te) := by
  intro pins s σ H D I h
  exact wpAny_Return_some (thnE (he pins s σ H _ I h) fun v s1 x H1 I1 r1 q1 => ⟨x, σ, H1, I1, r1, q1⟩)
def tRetN : TS := fun D _ H => D.rt .non H
def tIfS (c : TT) (t u : TS) : TS := fun D σ H => c σ H fun b H1 => if b = true then t D σ H1 else u D σ H1
theorem ps_if {c : Expr} {a b : List Stmt} {tc : TT} (hc : PT X c tc) (ha : PSs X a t) (hb : PSs X b u) : PS X (.If c a b pos) (tIfS tc t u) := by
  intro pins s σ H D I h
  refine wpAny_If (thnT (hc pins s σ H _ I h) fun d s1 H1 I1 q1 => ?_)
  cases d with
  | true => exact ha pins s1 σ H1 D I1 q1
  | false => exact hb pins s1 σ H1 D I1 q1
def tNever : TS := fun _ _ _ => False
theorem ps_never : PS X st tNever := fun _ _ _ _ _ _ h => h.elim
end
abbrev TG := V → St → Hp → (St → Hp → Prop) → Prop
abbrev TGs := List V → St → Hp → (St → Hp → Prop) → Prop
def PG (X : Cx) (target : Expr) (t : TG) : Prop :=
  ∀ (pins : List (Addr × Obj)) (s : Shared) (σ : St) (H : Hp) (v : V) (u : Value) (Q : St → Hp → Prop), Inv X pins σ H s → RelV v u → t v σ H Q →
    wpAny (model X.prog X.w) X.A (assign target X.env u) (fun _ s' => ∃ σ' H', Inv X pins σ' H' s' ∧ Q σ' H') X.xe s
def PGs (X : Cx) (ts : List Expr) (t : TGs) : Prop :=
  ∀ (pins : List (Addr × Obj)) (s : Shared) (σ : St) (H : Hp) (vs : List V) (us : List Value) (Q : St → Hp → Prop), Inv X pins σ H s → Vals vs us → t vs σ H Q →
    wpAny (model X.prog X.w) X.A (assignInOrder ((assignEach ts X.env).map (·.2)) us) (fun _ s' => ∃ σ' H', Inv X pins σ' H' s' ∧ Q σ' H') X.xe s
abbrev TSet := V → V → V → Hp → (Hp → Prop) → Prop
def PSet (X : Cx) (t : TSet) : Prop :=
  ∀ (pins : List (Addr × Obj)) (s : Shared) (σ : St) (H : Hp) (o i v : V) (ov iv u : Value) (Q : Hp → Prop), Inv X pins σ H s → RelV o ov → RelV i iv → RelV v u → t o i v H Q →
    wpAny (model X.prog X.w) X.A (setItem ov iv u) (fun _ s' => ∃ H', Inv X pins σ H' s' ∧ Q H') X.xe s
abbrev TIp := V → V → Hp → VK → Prop
def PIp (X : Cx) (op : Operator) (t : TIp) : Prop :=
  ∀ (pins : List (Addr × Obj)) (s : Shared) (σ : St) (H : Hp) (x y : V) (v u : Value) (Q : VK), Inv X pins σ H s → RelV x v → RelV y u → t x y H Q →
    wpAny (model X.prog X.w) X.A (inplaceOp op v u) (EP X pins σ Q) X.xe s
section
variable {X : Cx} {pos : Pos}
def gName (i : Nat) : TG := fun v σ H Q => Q (σ.set i (some v)) H
theorem pg_name {i : Nat} {x : Str} (hN : X.N.Nodup) (hi : X.N[i]? = some x) (hx : Loc X.env.scope x) (hf : X.fn x = true ∨ X.env.scope.names.lookup x = some .local := by first | exact .inl rfl | exact .inr rfl | assumption) : PG X (.Name x pos) (gName i) := by
  intro pins s σ H v u Q I r h
  exact wpAny_assign_Name (store_ok I hN hi hx r (fun s' I' => ⟨_, H, I', h⟩) hf)
def gNil : TGs := fun vs σ H Q => vs = [] ∧ Q σ H
def gCons (t : TG) (u : TGs) : TGs := fun vs σ H Q => ∃ v r, vs = v :: r ∧ t v σ H fun σ' H' => u r σ' H' Q
theorem pgs_nil : PGs X [] gNil := by
  intro pins s σ H vs us Q I r h
  obtain ⟨e, h⟩ := h
  subst e
  cases r
  exact assignInOrder_nil ⟨σ, H, I, h⟩
theorem pgs_cons {e : Expr} {es : List Expr} {t : TG} {u : TGs} (h1 : PG X e t) (h2 : PGs X es u)
    (hs : (assignEach (e :: es) X.env).map (·.2) = assign e X.env :: (assignEach es X.env).map (·.2) := by rfl) : PGs X (e :: es) (gCons t u) := by
  intro pins s σ H vs us Q I r h
  obtain ⟨v, vr, e1, h⟩ := h
  subst e1
  cases r with
  | cons r rr =>
    rw [hs]
    refine assignInOrder_cons (thn (h1 pins s σ H _ _ _ I r h) fun _ s1 ⟨σ1, H1, I1, q1⟩ => ?_)
    exact h2 pins s1 σ1 H1 _ _ Q I1 rr q1
def gTup (K : PySem.W.Frag) (n : Nat) (t : TGs) : TG := fun v σ H Q => ∃ a xs, v = .ref a ∧ SqT K H a xs ∧ xs.length = n ∧ t xs σ H Q
theorem pg_tup {es : List Expr} {k : Nat} {t : TGs} {n : Nat} (hc : X.calm = true) (h : PGs X es t)
    (hn : (assignEach es X.env).length = n := by rfl) (hst : (assignEach es X.env).findIdx? (·.1) = none := by rfl) : PG X (.Tuple es k pos) (gTup X.K n t) := by
  intro pins s σ H v u Q I r hw
  obtain ⟨a, xs, e1, hq, hl, hw⟩ := hw
  subst e1
  cases r
  obtain ⟨its, rv, ht, hz⟩ := I.tuple hq
  refine assign_Tuple_tuple (I.ok.hd hc) ht (by simp [hn, ← hl, rv.length]) hst fun h' hx => ?_
  have I1 : Inv X pins σ H { s with heap := h' } := I.kept (t' := s.toks) fun b o e => hx b o (Nat.ne_of_lt (Heap.lt_size e)) e
  exact h pins _ σ H xs _ Q I1 (by simpa using rv) hw
def gSub (to ti : TE) (t : TSet) : TG := fun v σ H Q => to σ H fun o H1 => ti σ H1 fun i H2 => t o i v H2 fun H3 => Q σ H3
theorem pg_sub {o i : Expr} {to ti : TE} {t : TSet} (ho : PE X o to) (hi : PE X i ti) (hs : PSet X t)
    (ha : ∀ v, assign (.Subscript o i pos) X.env v = (do
      let ov ← holding [v] (eval o X.env)
      let iv ← holding [v, ov] (eval i X.env)
      standAt pos
      holding [v, ov, iv] (setItem ov iv v)
      release [v, ov, iv] []) := by intro _; rfl) : PG X (.Subscript o i pos) (gSub to ti t) := by
  intro pins s σ H v u Q I r h
  rw [ha]
  refine wpAny_bind (wpAny_holding (thnE (ho pins s σ H _ I h) fun ov s1 x H1 I1 r1 q1 => ?_))
  refine wpAny_bind (wpAny_holding (thnE (hi pins s1 σ H1 _ I1 q1) fun iv s2 y H2 I2 r2 q2 => ?_))
  refine wpAny_bind (wpAny_standAt (wpAny_bind (wpAny_holding (thn (hs pins s2 σ H2 x y v ov iv u _ I2 r1 r2 r q2) fun _ s3 ⟨H3, I3, q3⟩ => ?_))))
  exact wpAny_release ⟨σ, H3, I3, q3⟩
def tAsg (te : TE) (g : TG) : TS := fun D σ H => te σ H fun x H1 => g x σ H1 D.nx
theorem ps_asg {tg e : Expr} {te : TE} {g : TG} (he : PE X e te) (hg : PG X tg g) (hs : swapsWithSole [tg] e pos.line X.env = pure false := by rfl) (hw : swappedStores [tg] e X.env = pure none := by rfl)
    (h1 : (assignEach [tg] X.env).map (·.2) = [assign tg X.env] := by rfl) : PS X (.Assign [tg] e pos) (tAsg te g) := by
  intro pins s σ H D I h
  refine wpAny_Assign_stores (thnE (he pins s σ H _ I h) fun v s1 x H1 I1 r1 q1 => ?_) hs hw
  rw [h1]
  exact thn (hg pins s1 σ H1 x v _ I1 r1 q1) fun _ s2 q => q
theorem ps_set {i : Nat} {x : Str} {e : Expr} {te : TE} {pos' : Pos} (hN : X.N.Nodup) (hi : X.N[i]? = some x) (hx : Loc X.env.scope x) (he : PE X e te) (hs : swapsWith e (some (.Name x pos')) pos.line X.env = pure false := by rfl) (hf : X.fn x = true ∨ X.env.scope.names.lookup x = some .local := by first | exact .inl rfl | exact .inr rfl | assumption) :
    PS X (.Assign [.Name x pos'] e pos) (tAsg te (gName i)) := by
  intro pins s σ H D I h
  refine wpAny_Assign_Name (thnE (he pins s σ H _ I h) fun v s1 y H1 I1 r1 q1 => ?_) hs
  exact store_ok I1 hN hi hx r1 (fun s2 I2 => ⟨_, H1, I2, q1⟩) hf
def tAug (i : Nat) (te : TE) (ti : TIp) : TS := fun D σ H => ∃ x, σ[i]? = some (some x) ∧ te σ H fun y H1 => ti x y H1 fun z H2 => D.nx (σ.set i (some z)) H2
theorem ps_aug {i : Nat} {x : Str} {e : Expr} {te : TE} {op : Operator} {ti : TIp} {pos' : Pos} (hN : X.N.Nodup) (hi : X.N[i]? = some x) (hx : Loc X.env.scope x) (he : PE X e te) (ho : PIp X op ti) (hf : X.fn x = true ∨ X.env.scope.names.lookup x = some .local := by first | exact .inl rfl | exact .inr rfl | assumption) :
    PS X (.AugAssign (.Name x pos') op e pos) (tAug i te ti) := by
  intro pins s σ H D I h
  obtain ⟨v, e1, h⟩ := h
  obtain ⟨m, hn, hl⟩ := I.loc
  have vis : Vis X.env.scope x := by rcases hx with k | k; exact .inl k; exact .inr (.inl k)
  obtain ⟨u, r, l⟩ := hl i x v hi e1 vis
  refine wpAny_AugAssign_Name ?_
  have go : wpAny (model X.prog X.w) X.A (eval e X.env) (fun w s₂ => wpAny (model X.prog X.w) X.A (inplaceOp op u w) (fun r s₃ => wpAny (model X.prog X.w) X.A (storeName X.env x r) (fun _ => SP X pins D .next) X.xe s₃) X.xe s₂) X.xe s := by
    refine thn (he pins s σ H _ I h) fun w s1 ⟨y, H1, I1, r1, q1⟩ => ?_
    refine thn (ho pins s1 σ H1 v y u w _ I1 r r1 q1) fun z s2 ⟨zv, H2, I2, r2, q2⟩ => ?_
    exact store_ok I2 hN hi hx r2 (fun s3 I3 => ⟨_, H2, I3, q2⟩) hf
  rcases l with ⟨hk, hm⟩ | ⟨hk, c, hc, hcell⟩
  · exact wpAny_loadName_local I.ok.kind hk hn hm go
  · rcases hk with hk | hk
    · exact wpAny_loadName_cell I.ok.kind hk hc hcell go
    · rcases hx with k | k
      · have : X.env.scope.names.lookup x = some .free := hk
        rw [k] at this; cases this
      · have : X.env.scope.names.lookup x = some .free := hk
        rw [k] at this; cases this
def tAugS (to ti te : TE) (tget : V → V → Hp → VK → Prop) (tip : TIp) (tset : TSet) : TS := fun D σ H => to σ H fun o H1 => ti σ H1 fun i H2 => tget o i H2 fun x H3 => te σ H3 fun y H4 => tip x y H4 fun z H5 => tset o i z H5 fun H6 => D.nx σ H6
def ipI (f : Int → Int → Int) : TIp := fun x y H Q => ∃ i j, x = .int i ∧ y = .int j ∧ Q (.int (f i j)) H
theorem ip_add : PIp X .Add (ipI fun i j => i + j) := by
  intro pins s σ H x y v u Q I r1 r2 h
  obtain ⟨i, j, e1, e2, q⟩ := h
  subst e1; subst e2
  obtain ⟨t, rfl⟩ := r1
  obtain ⟨t', rfl⟩ := r2
  exact iadd_int ⟨.int _, H, I.tok _, ⟨_, rfl⟩, q⟩
end
section
variable {X : Cx} {pos : Pos}
def tWhile (c : TT) (tb : TS) : TS := fun D σ H => ∃ W : Nat → St → Hp → Prop, (∃ m, W m σ H) ∧ ∀ m σ H, W m σ H →
  c σ H fun b H1 => if b = true then ∃ N : St → Hp → Prop, (∀ σ' H', N σ' H' → ∃ m', m' < m ∧ W m' σ' H') ∧ tb { D with nx := N, ct := N, bk := D.nx } σ H1 else D.nx σ H1
theorem ps_while {c : Expr} {body : List Stmt} {tc : TT} {tb : TS} (hp : PassesOwn (model X.prog X.w) X.A X.env X.xe) (hc : PT X c tc) (hb : PSs X body tb) : PS X (.While c body [] pos) (tWhile tc tb) := by
  intro pins s σ H D I h
  obtain ⟨W, ⟨m0, w0⟩, turn⟩ := h
  refine wpAny_While (codeAny_whileLoop (fun n s' => ∃ σ' H', Inv X pins σ' H' s' ∧ W n σ' H') ?_ m0 ⟨σ, H, I, w0⟩)
  rintro n s1 ⟨σ1, H1, I1, w1⟩
  refine wpAny_passesOwn hp (thnT (hc pins s1 σ1 H1 _ I1 (turn n σ1 H1 w1)) fun b s2 H2 I2 q2 => ?_)
  cases b with
  | true =>
    obtain ⟨N, hN, q2⟩ := q2
    rw [if_pos rfl]
    refine wpAny_passesOwn hp (thn (hb pins s2 σ1 H2 _ I2 q2) fun f s3 q3 => ?_)
    cases f with
    | next =>
      obtain ⟨σ3, H3, I3, n3⟩ := q3
      obtain ⟨m', hm, w3⟩ := hN σ3 H3 n3
      exact ⟨m', hm, σ3, H3, I3, w3⟩
    | cont =>
      obtain ⟨σ3, H3, I3, n3⟩ := q3
      obtain ⟨m', hm, w3⟩ := hN σ3 H3 n3
      exact ⟨m', hm, σ3, H3, I3, w3⟩
    | brk => exact q3
    | ret v => exact q3
  | false =>
    rw [if_neg Bool.false_ne_true]
    exact wpAny_execs_nil ⟨σ1, H2, I2, q2⟩
end
structure It where
  go : Nat → Hp → Prop
  yld : Nat → Hp → V → Hp → Prop
  stop : Nat → Hp → Prop
def FpOk (X : Cx) (pins : List (Addr × Obj)) (H : Hp) (b : Addr) : Prop :=
  H b = none ∧ b ≠ X.env.locals ∧ b ∉ X.fs ∧ (b ∈ X.ex ∨ X.s₀.heap.objs.size ≤ b) ∧ (∀ x c, X.env.cells.lookup x = some c → c ≠ b) ∧ ∀ p ∈ X.pn ++ pins, p.1 ≠ b
theorem Inv.fpOk {X : Cx} {pins : List (Addr × Obj)} {σ : St} {H H' : Hp} {s : Shared} {b : Addr} (I : Inv X pins σ H s) (hb : s.heap.objs.size ≤ b) (hn : H' b = none) : FpOk X pins H' b := by
  refine ⟨hn, Nat.ne_of_gt (Nat.lt_of_lt_of_le I.lt hb), I.nofs hb, .inr (Nat.le_trans I.sz hb), fun x c e z => ?_, fun p hp z => ?_⟩
  · obtain ⟨v, q⟩ := I.cell x c e
    exact absurd (Nat.lt_of_lt_of_le q.lt (by rw [z]; exact hb)) (Nat.lt_irrefl _)
  · exact absurd (Nat.lt_of_lt_of_le (Heap.lt_size (I.pin p hp).1) (by rw [z]; exact hb)) (Nat.lt_irrefl _)
structure Turn (P : Program) (w : World) (K : PySem.W.Frag) (tg : Expr) (J : It) (fp : List Addr) (it : Addr) (tn : Nat → Heap → Prop) : Prop where
  mem : it ∈ fp
  obj : ∀ i h, tn i h → ∀ b ∈ fp, ∃ o, h.get? b = some o ∧ ∀ v, o.data ≠ .cell v
  keep : ∀ i h h', tn i h → (∀ b ∈ fp, ∀ o, h.get? b = some o → h'.get? b = some o) → tn i h'
  item : ∀ (X : Cx), X.prog = P → X.w = w → X.K = K → X.calm = true → ∀ (i : Nat) (pins : List (Addr × Obj)) (s : Shared) (σ : St) (H : Hp) (E : Value → Shared → Prop), Inv X pins σ H s → (∀ b ∈ fp, FpOk X pins H b) → tn i s.heap → J.go i H →
    wpAny (model P w) X.A (pyNext (.ref it)) (fun r s1 => ∃ u, r = some u ∧
      wpAny (model P w) X.A (letOwnedTupleGo tg (.ref it) u) (fun _ s2 => ∃ x H', Inv X pins σ H' s2 ∧ RelV x u ∧ J.yld i H x H' ∧ tn (i + 1) s2.heap ∧ ∀ b ∈ fp, H' b = none) E s1) E s
  done : ∀ (X : Cx), X.prog = P → X.w = w → X.K = K → X.calm = true → ∀ (i : Nat) (pins : List (Addr × Obj)) (s : Shared) (σ : St) (H : Hp) (E : Value → Shared → Prop), Inv X pins σ H s → (∀ b ∈ fp, FpOk X pins H b) → tn i s.heap → J.stop i H →
    wpAny (model P w) X.A (pyNext (.ref it)) (fun r s1 => r = none ∧ Inv X pins σ H s1) E s
  self : ∀ (A : Around) (i : Nat) (s : Shared) (Q : Value → Shared → Prop) (E : Value → Shared → Prop), tn i s.heap → Q (.ref it) s → wpAny (model P w) A (pyIter (.ref it)) Q E s
abbrev TI := St → Hp → (It → Hp → Prop) → Prop
def PIE (X : Cx) (pins : List (Addr × Obj)) (σ : St) (tg : Expr) (R : It → Hp → Prop) (itv : Value) (s2 : Shared) : Prop :=
  ∃ (it : Addr) (fp : List Addr) (tn : Nat → Heap → Prop) (J : It) (H' : Hp), itv = .ref it ∧ Inv X pins σ H' s2 ∧ Turn X.prog X.w X.K tg J fp it tn ∧ tn 0 s2.heap ∧ (∀ b ∈ fp, FpOk X pins H' b) ∧ R J H'
def PI (X : Cx) (tg iter : Expr) (wi : TI) : Prop :=
  ∀ (pins : List (Addr × Obj)) (s : Shared) (σ : St) (H : Hp) (R : It → Hp → Prop), Inv X pins σ H s → wi σ H R →
    wpAny (model X.prog X.w) X.A (eval iter X.env) (fun v s1 => wpAny (model X.prog X.w) X.A (pyIter v) (PIE X pins σ tg R) X.xe s1) X.xe s
theorem go_of {M : Model} {A : Around} {E : Value → Shared → Prop} {s : Shared} {tg : Expr} {it : Addr} {u : Value} {o : Obj} {n : String} {vs : Array Value} {Q : Unit → Shared → Prop} (ho : s.heap.get? it = some o) (hc : o.cls = .type n) (hd : o.data = .fields vs)
    (hn : ["enumerate", "zip", "dict_itemiterator", "dict_reverseitemiterator", "odict_iterator", "itertools.zip_longest", "itertools.pairwise"].contains n = false) (hQ : Q () s) : wpAny M A (letOwnedTupleGo tg (.ref it) u) Q E s := by
  unfold letOwnedTupleGo
  cases tg <;> first
    | exact wpAny_pure hQ
    | (cases u <;> first
        | exact wpAny_pure hQ
        | (refine wpAny_bind (wpAny_load ho ?_)
           rw [hc, hd]
           show wpAny M A (if (["enumerate", "zip", "dict_itemiterator", "dict_reverseitemiterator", "odict_iterator", "itertools.zip_longest", "itertools.pairwise"].contains n && vs[0]? == some (rawInt _)) = true then _ else _) Q E s
           rw [if_neg (by intro h; rw [hn, Bool.false_and] at h; cases h)]
           exact wpAny_pure hQ))
def Itl (K : PySem.W.Frag) (a : Addr) : It :=
  ⟨fun i H => ∃ xs x, SqL K H a xs ∧ xs[i]? = some x, fun i H x H' => H' = H ∧ ∀ xs, SqL K H a xs → xs[i]? = some x, fun i H => ∃ xs, SqL K H a xs ∧ xs.length ≤ i⟩
def Itt (K : PySem.W.Frag) (a : Addr) : It :=
  ⟨fun i H => ∃ xs x, SqT K H a xs ∧ xs[i]? = some x, fun i H x H' => H' = H ∧ ∀ xs, SqT K H a xs → xs[i]? = some x, fun i H => ∃ xs, SqT K H a xs ∧ xs.length ≤ i⟩
def Itr (lo : Int) (n : Nat) : It := ⟨fun i _ => i < n, fun i H x H' => H' = H ∧ x = .int (lo + i), fun i _ => n ≤ i⟩
theorem turn_list {P : Program} {w : World} {K : PySem.W.Frag} {tg : Expr} (a it : Addr) : Turn P w K tg (Itl K a) [it] it (fun i h => h.IsListIter it a i) where
  mem := by simp
  obj := fun i h st b hb => by
    have e : b = it := by simpa using hb
    subst e
    obtain ⟨o, e, c, d⟩ := st
    exact ⟨o, e, fun v z => by rw [d] at z; cases z⟩
  keep := fun i h h' st k => st.at fun o e => k it (by simp) o e
  item := by
    intro X hP hw hK hc i pins s σ H E I hf st hg
    subst hP hw hK
    obtain ⟨xs, x, hq, hx⟩ := hg
    obtain ⟨its, rv, p, hz⟩ := I.list hq
    obtain ⟨u, hu, ru⟩ := rv.get hx
    obtain ⟨f0, f1, f2, f3, f4, f5⟩ := hf it (by simp)
    refine wpAny_pyNext_list_item st p.isList (x := u) (by simpa using hu) fun h' st' sb => ?_
    have I1 : Inv X pins σ H { s with heap := h' } := I.turned (t' := s.toks) (fun b o hb e => (sb.2 b hb).trans e) f0 f1 f3 f4 f5
    obtain ⟨o, e, c, d⟩ := id st'
    exact ⟨u, rfl, go_of (s := { s with heap := h' }) e c d (by decide) ⟨x, H, I1, ru, ⟨rfl, fun ys hy => by rw [I.list_inj hy hq]; exact hx⟩, st', fun b hb => (hf b hb).1⟩⟩
  done := by
    intro X hP hw hK hc i pins s σ H E I hf st hg
    subst hP hw hK
    obtain ⟨xs, hq, hx⟩ := hg
    obtain ⟨its, rv, p, hz⟩ := I.list hq
    obtain ⟨f0, f1, f2, f3, f4, f5⟩ := hf it (by simp)
    have hl := rv.length
    exact wpAny_pyNext_list_end (I.ok.hd hc) st p.isList (by simp; omega) fun h' eb => ⟨rfl, I.turned (t' := s.toks) (fun b o hb e => eb b o hb e) f0 f1 f3 f4 f5⟩
  self := fun _ _ _ _ _ st h => wpAny_pyIter_listiter st h
theorem turn_tuple {P : Program} {w : World} {K : PySem.W.Frag} {tg : Expr} (a it : Addr) : Turn P w K tg (Itt K a) [it] it (fun i h => h.IsTupleIter it a i) where
  mem := by simp
  obj := fun i h st b hb => by
    have e : b = it := by simpa using hb
    subst e
    obtain ⟨o, e, c, d⟩ := st
    exact ⟨o, e, fun v z => by rw [d] at z; cases z⟩
  keep := fun i h h' st k => st.at fun o e => k it (by simp) o e
  item := by
    intro X hP hw hK hc i pins s σ H E I hf st hg
    subst hP hw hK
    obtain ⟨xs, x, hq, hx⟩ := hg
    obtain ⟨its, rv, p, hz⟩ := I.tuple hq
    obtain ⟨u, hu, ru⟩ := rv.get hx
    obtain ⟨f0, f1, f2, f3, f4, f5⟩ := hf it (by simp)
    refine wpAny_pyNext_tuple_item st (show s.heap.IsTuple a its.toArray from p) (x := u) (by simpa using hu) fun h' st' sb => ?_
    have I1 : Inv X pins σ H { s with heap := h' } := I.turned (t' := s.toks) (fun b o hb e => (sb.2 b hb).trans e) f0 f1 f3 f4 f5
    obtain ⟨o, e, c, d⟩ := id st'
    exact ⟨u, rfl, go_of (s := { s with heap := h' }) e c d (by decide) ⟨x, H, I1, ru, ⟨rfl, fun ys hy => by rw [I.tuple_inj hy hq]; exact hx⟩, st', fun b hb => (hf b hb).1⟩⟩
  done := by
    intro X hP hw hK hc i pins s σ H E I hf st hg
    subst hP hw hK
    obtain ⟨xs, hq, hx⟩ := hg
    obtain ⟨its, rv, p, hz⟩ := I.tuple hq
    obtain ⟨f0, f1, f2, f3, f4, f5⟩ := hf it (by simp)
    have hl := rv.length
    exact wpAny_pyNext_tuple_end (I.ok.hd hc) st (show s.heap.IsTuple a its.toArray from p) (by simp; omega) fun h' eb => ⟨rfl, I.turned (t' := s.toks) (fun b o hb e => eb b o hb e) f0 f1 f3 f4 f5⟩
  self := fun _ _ _ _ _ st h => wpAny_pyIter_tupleiter st h
theorem turn_range {P : Program} {w : World} {K : PySem.W.Frag} {tg : Expr} (it : Addr) (lo : Int) (n : Nat) : Turn P w K tg (Itr lo n) [it] it (fun i h => IsRangeIter h it (lo + (i : Nat) * 1) ((n : Int) - (i : Nat)) 1) where
  mem := by simp
  obj := fun i h st b hb => by
    have e : b = it := by simpa using hb
    subst e
    exact ⟨_, st, fun v z => by
      have z' : Data.fields _ = Data.cell v := z
      cases z'⟩
  keep := fun i h h' st k => k it (by simp) _ st
  item := by
    intro X hP hw hK hc i pins s σ H E I hf st hg
    subst hP hw hK
    obtain ⟨f0, f1, f2, f3, f4, f5⟩ := hf it (by simp)
    have W := Walks.range (prog := X.prog) (w := X.w) (I.ok.hd hc) it lo 1 n
    refine W.item i s _ _ hg st fun v h' tk hv st' kk => ?_
    obtain ⟨t, rfl⟩ := hv
    have I1 : Inv X pins σ H { s with heap := h', toks := tk } := I.turned (fun b o hb e => kk b o (by simpa using hb) e) f0 f1 f3 f4 f5
    refine ⟨_, rfl, go_of (s := { s with heap := h', toks := tk }) (n := "range_iterator") st' rfl rfl (by decide) ⟨.int (lo + i), H, I1, ⟨t, ?_⟩, ⟨rfl, rfl⟩, st', fun b hb => (hf b hb).1⟩⟩
    rw [Int.mul_one]
  done := by
    intro X hP hw hK hc i pins s σ H E I hf st hg
    subst hP hw hK
    obtain ⟨f0, f1, f2, f3, f4, f5⟩ := hf it (by simp)
    exact wpAny_pyNext_range_end (I.ok.hd hc) st (by have : n ≤ i := hg; omega) fun h' eb => ⟨rfl, I.turned (t' := s.toks) (fun b o hb e => eb b o hb e) f0 f1 f3 f4 f5⟩
  self := fun _ _ _ _ _ st h => wpAny_pyIter_rangeiter st h
end L2
namespace L2
open PySem PySem.Spec PyProof.Rows
section
variable {X : Cx} {tg : Expr}
def iList (K : PySem.W.Frag) (tl : TE) : TI := fun σ H R => tl σ H fun x H1 => ∃ a, x = .ref a ∧ (∃ xs, SqL K H1 a xs) ∧ R (Itl K a) H1
def iTup (K : PySem.W.Frag) (tl : TE) : TI := fun σ H R => tl σ H fun x H1 => ∃ a, x = .ref a ∧ (∃ xs, SqT K H1 a xs) ∧ R (Itt K a) H1
theorem pi_list {l : Expr} {tl : TE} (hl : PE X l tl) : PI X tg l (iList X.K tl) := by
  intro pins s σ H R I h
  refine thnE (hl pins s σ H _ I h) fun v s1 x H1 I1 r1 q1 => ?_
  obtain ⟨a, e, ⟨xs, hq⟩, q⟩ := q1
  subst e
  cases r1
  obtain ⟨its, rv, p, hz⟩ := I1.list hq
  refine wpAny_pyIter_list p.isList ?_
  refine ⟨s1.heap.objs.size, [s1.heap.objs.size], _, _, H1, rfl, I1.kept (t' := s1.toks) fun b o e => Heap.get?_push_of_some _ e, turn_list a _, ⟨_, Heap.get?_push_size _ rfl, rfl, rfl⟩, fun b hb => ?_, q⟩
  have e : b = s1.heap.objs.size := by simpa using hb
  subst e
  exact I1.fpOk (Nat.le_refl _) (I1.hok.fresh (Nat.le_refl _))
theorem pi_tup {l : Expr} {tl : TE} (hl : PE X l tl) : PI X tg l (iTup X.K tl) := by
  intro pins s σ H R I h
  refine thnE (hl pins s σ H _ I h) fun v s1 x H1 I1 r1 q1 => ?_
  obtain ⟨a, e, ⟨xs, hq⟩, q⟩ := q1
  subst e
  cases r1
  obtain ⟨its, rv, p, hz⟩ := I1.tuple hq
  refine wpAny_pyIter_tuple (show s1.heap.IsTuple a its.toArray from p) ?_
  refine ⟨s1.heap.objs.size, [s1.heap.objs.size], _, _, H1, rfl, I1.kept (t' := s1.toks) fun b o e => Heap.get?_push_of_some _ e, turn_tuple a _, ⟨_, Heap.get?_push_size _ rfl, rfl, rfl⟩, fun b hb => ?_, q⟩
  have e : b = s1.heap.objs.size := by simpa using hb
  subst e
  exact I1.fpOk (Nat.le_refl _) (I1.hok.fresh (Nat.le_refl _))
theorem range_it {pins : List (Addr × Obj)} {σ : St} {H : Hp} {s : Shared} {R : It → Hp → Prop} {E : Value → Shared → Prop} {lo hi : Int} {t u v : Tok} {tk : Nat} (I : Inv X pins σ H s) (h1 : -(2 ^ 62) ≤ lo) (h2 : lo < 2 ^ 62) (h3 : -(2 ^ 62) ≤ hi) (h4 : hi < 2 ^ 62)
    (q : R (Itr lo (hi - lo).toNat) H) : wpAny (model X.prog X.w) X.A (pyIter (.ref s.heap.objs.size)) (PIE X pins σ tg R) E { s with heap := s.heap.push { cls := .type "range", data := .fields #[.int lo t, .int hi u, .int 1 v] }, toks := tk } := by
  refine wpAny_pyIter_range (IsRange.new ..) (small_one h1 h2 h3 h4) ?_
  have I1 : Inv X pins σ H { s with heap := s.heap.push { cls := .type "range", data := .fields #[.int lo t, .int hi u, .int 1 v] }, toks := tk } := I.kept fun b o e => Heap.get?_push_of_some _ e
  refine ⟨(s.heap.push { cls := .type "range", data := .fields #[.int lo t, .int hi u, .int 1 v] }).objs.size, [(s.heap.push { cls := .type "range", data := .fields #[.int lo t, .int hi u, .int 1 v] }).objs.size], _, _, H, rfl,
    I1.kept (t' := tk) fun b o e => Heap.get?_push_of_some _ e, turn_range _ lo (hi - lo).toNat, ?_, fun b hb => ?_, q⟩
  · have e1 : lo + ((0 : Nat) : Int) * 1 = lo := by simp
    have e2 : (((hi - lo).toNat : Nat) : Int) - ((0 : Nat) : Int) = Builtin.Range.rangeSize lo hi 1 := by rw [rangeSize_one]; split <;> omega
    show IsRangeIter _ _ (lo + ((0 : Nat) : Int) * 1) ((((hi - lo).toNat : Nat) : Int) - ((0 : Nat) : Int)) 1
    rw [e1, e2]
    exact Heap.get?_push_size _ rfl
  · have e : b = (s.heap.push { cls := .type "range", data := .fields #[.int lo t, .int hi u, .int 1 v] }).objs.size := by simpa using hb
    subst e
    exact I1.fpOk (Nat.le_refl _) (I1.hok.fresh (Nat.le_refl _))
def iRng1 (ta : TA) : TI := fun σ H R => ta σ H fun vs H1 => ∃ j : Int, vs = [.int j] ∧ -(2 ^ 62) ≤ j ∧ j < 2 ^ 62 ∧ R (Itr 0 j.toNat) H1
def iRng2 (ta : TA) : TI := fun σ H R => ta σ H fun vs H1 => ∃ i j : Int, vs = [.int i, .int j] ∧ (-(2 ^ 62) ≤ i ∧ i < 2 ^ 62 ∧ -(2 ^ 62) ≤ j ∧ j < 2 ^ 62) ∧ R (Itr i (j - i).toNat) H1
theorem pi_range1 {a : Expr} {ta : TA} {p pos : Pos} (hg : Gl X "range") (hm : X.mg "range" = none) (ha : PA X [a] ta) (hs : starEach [a] X.env = [(false, eval a X.env)] := by rfl) : PI X tg (.Call (.Name "range" p) [a] [] pos) (iRng1 ta) := by
  intro pins s σ H R I h
  refine Call_ (ld_blt I hg hm boot_range (PyProof.Rows.callWith_type1 (thnA (ha pos pins s σ H _ I h) fun us s1 vs H1 I1 r1 q1 => ?_) hs rfl))
  obtain ⟨j, e, q1, q2, q⟩ := q1
  subst e
  cases r1 with
  | cons r rr =>
    cases rr
    obtain ⟨t, rfl⟩ := r
    exact call_range_1 (range_it I1 (by omega) (by omega) q1 q2 (by simpa using q))
theorem pi_range2 {a b : Expr} {ta : TA} {p pos : Pos} (hg : Gl X "range") (hm : X.mg "range" = none) (ha : PA X [a, b] ta) (hs : starEach [a, b] X.env = [(false, eval a X.env), (false, eval b X.env)] := by rfl) (hs2 : starEach [b] X.env = [(false, eval b X.env)] := by rfl) :
    PI X tg (.Call (.Name "range" p) [a, b] [] pos) (iRng2 ta) := by
  intro pins s σ H R I h
  refine Call_ (ld_blt I hg hm boot_range (PyProof.Rows.callWith_type1 (thnA (ha pos pins s σ H _ I h) fun us s1 vs H1 I1 r1 q1 => ?_) (by rw [hs, hs2]) (by rw [hs2]; rfl)))
  obtain ⟨i, j, e, ⟨q1, q2, q3, q4⟩, q⟩ := q1
  subst e
  cases r1 with
  | cons r rr =>
    cases rr with
    | cons r' rr =>
      cases rr
      obtain ⟨t, rfl⟩ := r
      obtain ⟨t', rfl⟩ := r'
      exact call_range_2 (range_it I1 q1 q2 q3 q4 q)
def tFor (wi : TI) (g : TG) (tb : TS) : TS := fun D σ H => wi σ H fun J H1 => ∃ W : Nat → Nat → St → Hp → Prop, (∃ m, W 0 m σ H1) ∧ ∀ i m σ H, W i m σ H →
  (J.stop i H ∧ D.nx σ H) ∨ (J.go i H ∧ ∃ N : St → Hp → Prop, (∀ σ' H', N σ' H' → ∃ m', m' < m ∧ W (i + 1) m' σ' H') ∧ ∀ x H', J.yld i H x H' → g x σ H' fun σ2 H2 => tb { D with nx := N, ct := N, bk := D.nx } σ2 H2)
def pinsAt (fp : List Addr) (h : Heap) : List (Addr × Obj) := fp.filterMap fun b => (h.get? b).map fun o => (b, o)
theorem mem_pinsAt {fp : List Addr} {h : Heap} {b : Addr} {o : Obj} (hb : b ∈ fp) (e : h.get? b = some o) : (b, o) ∈ pinsAt fp h := List.mem_filterMap.mpr ⟨b, hb, by rw [e]; rfl⟩
theorem of_pinsAt {fp : List Addr} {h : Heap} {p : Addr × Obj} (hp : p ∈ pinsAt fp h) : p.1 ∈ fp ∧ h.get? p.1 = some p.2 := by
  obtain ⟨b, hb, e⟩ := List.mem_filterMap.mp hp
  cases q : h.get? b with
  | none => rw [q] at e; cases e
  | some o =>
    rw [q] at e
    have e' : (b, o) = p := Option.some.inj e
    subst e'
    exact ⟨hb, q⟩
theorem Inv.pinned {pins : List (Addr × Obj)} {σ : St} {H : Hp} {s : Shared} {fp : List Addr} (I : Inv X pins σ H s) (hf : ∀ b ∈ fp, FpOk X pins H b) (ho : ∀ b ∈ fp, ∃ o, s.heap.get? b = some o ∧ ∀ v, o.data ≠ .cell v) : Inv X (pins ++ pinsAt fp s.heap) σ H s :=
  I.pins_of fun p hp => (List.mem_append.mp hp).elim (fun z => I.pin p (List.mem_append_right _ z)) fun z => by
    obtain ⟨hb, e⟩ := of_pinsAt z
    obtain ⟨f0, f1, f2, _⟩ := hf p.1 hb
    obtain ⟨o, e', d⟩ := ho p.1 hb
    rw [e] at e'; cases e'
    exact ⟨e, f0, f1, f2, d⟩
theorem Inv.unpinned {pins pl : List (Addr × Obj)} {σ : St} {H : Hp} {s : Shared} (I : Inv X (pins ++ pl) σ H s) : Inv X pins σ H s := I.pins_of fun p hp => I.pin p (List.mem_append_right _ (List.mem_append_left _ hp))
theorem ps_for {iter : Expr} {body : List Stmt} {wi : TI} {g : TG} {tb : TS} {pos : Pos} (hp : PassesOwn (model X.prog X.w) X.A X.env X.xe) (hc : X.calm = true) (hi : PI X tg iter wi) (hg : PG X tg g) (hb : PSs X body tb)
    (hs : ∀ x, foldedSetIterable iter X.env x = pure x := by intro _; rfl) : PS X (.For tg iter body [] pos) (tFor wi g tb) := by
  intro pins s σ H D I h
  refine wpAny_For (thn (hi pins s σ H _ I h) fun v s1 h1 => thn h1 fun itv s2 h2 => ?_) hs
  obtain ⟨it, fp, tn, J, H2, e, I2, T, st2, f2, W, ⟨m0, w0⟩, turn⟩ := h2
  subst e
  -- what stays true of the iterator's objects through the loop
  have stat : ∀ {H' : Hp}, (∀ b ∈ fp, H' b = none) → ∀ b ∈ fp, FpOk X pins H' b := fun hn b hb => ⟨hn b hb, (f2 b hb).2⟩
  refine codeAny_forLoop_any (fun n s' => ∃ i σ' H', Inv X pins σ' H' s' ∧ tn i s'.heap ∧ (∀ b ∈ fp, H' b = none) ∧ W i n σ' H') ?_ m0 ⟨0, σ, H2, I2, st2, fun b hb => (f2 b hb).1, w0⟩
  rintro n s3 ⟨i, σ3, H3, I3, st3, fr3, w3⟩
  rcases turn i n σ3 H3 w3 with ⟨stop, qn⟩ | ⟨go, N, hN, step⟩
  · refine wpAny_passesOwn hp (thn (T.done X rfl rfl rfl hc i pins s3 σ3 H3 X.xe I3 (stat fr3) st3 stop) fun r s4 ⟨hr, I4⟩ => ?_)
    subst hr
    exact wpAny_execs_nil ⟨σ3, H3, I4, qn⟩
  · refine wpAny_passesOwn hp (thn (T.item X rfl rfl rfl hc i pins s3 σ3 H3 X.xe I3 (stat fr3) st3 go) fun r s4 ⟨u, hr, h4⟩ => ?_)
    subst hr
    refine wpAny_passesOwn hp (thn h4 fun _ s5 ⟨x, H5, I5, r5, y5, st5, fr5⟩ => ?_)
    have I5' := I5.pinned (stat fr5) (T.obj _ _ st5)
    refine wpAny_passesOwn hp (thn (hg _ s5 σ3 H5 x u _ I5' r5 (step x H5 y5)) fun _ s6 ⟨σ6, H6, I6, q6⟩ => ?_)
    refine wpAny_passesOwn hp (thn (hb _ s6 σ6 H6 _ I6 q6) fun f s7 q7 => ?_)
    have again : ∀ {σ7 : St} {H7 : Hp}, Inv X (pins ++ pinsAt fp s5.heap) σ7 H7 s7 → N σ7 H7 → ∃ m, m < n ∧ ∃ i σ' H', Inv X pins σ' H' s7 ∧ tn i s7.heap ∧ (∀ b ∈ fp, H' b = none) ∧ W i m σ' H' := fun {σ7 H7} I7 n7 => by
      obtain ⟨m', hm, w7⟩ := hN σ7 H7 n7
      refine ⟨m', hm, i + 1, σ7, H7, I7.unpinned, T.keep _ _ _ st5 fun b hb o e => (I7.pin (b, o) (List.mem_append_right _ (List.mem_append_right _ (mem_pinsAt hb e)))).1, fun b hb => ?_, w7⟩
      obtain ⟨o, e, d⟩ := T.obj _ _ st5 b hb
      exact (I7.pin (b, o) (List.mem_append_right _ (List.mem_append_right _ (mem_pinsAt hb e)))).2.1
    cases f with
    | next => obtain ⟨σ7, H7, I7, n7⟩ := q7; exact again I7 n7
    | cont => obtain ⟨σ7, H7, I7, n7⟩ := q7; exact again I7 n7
    | brk => obtain ⟨σ7, H7, I7, q7⟩ := q7; exact ⟨σ7, H7, I7.unpinned, q7⟩
    | ret v => obtain ⟨x7, σ7, H7, I7, r7, q7⟩ := q7; exact ⟨x7, σ7, H7, I7.unpinned, r7, q7⟩
end
theorem for_list {K : PySem.W.Frag} {a : Addr} {xs : List V} {g : TG} {tb : TS} {D : Ends} {σ : St} {H : Hp} (Pv : Nat → St → Hp → Prop) (h0 : Pv 0 σ H) (hl : ∀ i σ H, i ≤ xs.length → Pv i σ H → SqL K H a xs)
    (hs : ∀ i x σ H, xs[i]? = some x → Pv i σ H → g x σ H fun σ2 H2 => tb { D with nx := Pv (i + 1), ct := Pv (i + 1), bk := D.nx } σ2 H2) (hd : ∀ σ H, Pv xs.length σ H → D.nx σ H) :
    ∃ W : Nat → Nat → St → Hp → Prop, (∃ m, W 0 m σ H) ∧ ∀ i m σ H, W i m σ H →
      ((Itl K a).stop i H ∧ D.nx σ H) ∨ ((Itl K a).go i H ∧ ∃ N : St → Hp → Prop, (∀ σ' H', N σ' H' → ∃ m', m' < m ∧ W (i + 1) m' σ' H') ∧ ∀ x H', (Itl K a).yld i H x H' → g x σ H' fun σ2 H2 => tb { D with nx := N, ct := N, bk := D.nx } σ2 H2) := by
  refine ⟨fun i m σ H => m = xs.length - i ∧ i ≤ xs.length ∧ Pv i σ H, ⟨xs.length, by simp, Nat.zero_le _, h0⟩, ?_⟩
  rintro i m σ H ⟨rfl, hi, p⟩
  have q := hl i σ H hi p
  by_cases hlt : i < xs.length
  · refine .inr ⟨⟨xs, xs[i], q, by simp [hlt]⟩, Pv (i + 1), fun σ' H' p' => ⟨xs.length - (i + 1), by omega, rfl, hlt, p'⟩, fun x H' y => ?_⟩
    obtain ⟨e, y⟩ := y
    subst e
    exact hs i x σ _ (y xs q) p
  · have e : i = xs.length := by omega
    subst e
    exact .inl ⟨⟨xs, q, Nat.le_refl _⟩, hd σ H p⟩
theorem for_tup {K : PySem.W.Frag} {a : Addr} {xs : List V} {g : TG} {tb : TS} {D : Ends} {σ : St} {H : Hp} (Pv : Nat → St → Hp → Prop) (h0 : Pv 0 σ H) (hl : ∀ i σ H, i ≤ xs.length → Pv i σ H → SqT K H a xs)
    (hs : ∀ i x σ H, xs[i]? = some x → Pv i σ H → g x σ H fun σ2 H2 => tb { D with nx := Pv (i + 1), ct := Pv (i + 1), bk := D.nx } σ2 H2) (hd : ∀ σ H, Pv xs.length σ H → D.nx σ H) :
    ∃ W : Nat → Nat → St → Hp → Prop, (∃ m, W 0 m σ H) ∧ ∀ i m σ H, W i m σ H →
      ((Itt K a).stop i H ∧ D.nx σ H) ∨ ((Itt K a).go i H ∧ ∃ N : St → Hp → Prop, (∀ σ' H', N σ' H' → ∃ m', m' < m ∧ W (i + 1) m' σ' H') ∧ ∀ x H', (Itt K a).yld i H x H' → g x σ H' fun σ2 H2 => tb { D with nx := N, ct := N, bk := D.nx } σ2 H2) := by
  refine ⟨fun i m σ H => m = xs.length - i ∧ i ≤ xs.length ∧ Pv i σ H, ⟨xs.length, by simp, Nat.zero_le _, h0⟩, ?_⟩
  rintro i m σ H ⟨rfl, hi, p⟩
  have q := hl i σ H hi p
  by_cases hlt : i < xs.length
  · refine .inr ⟨⟨xs, xs[i], q, by simp [hlt]⟩, Pv (i + 1), fun σ' H' p' => ⟨xs.length - (i + 1), by omega, rfl, hlt, p'⟩, fun x H' y => ?_⟩
    obtain ⟨e, y⟩ := y
    subst e
    exact hs i x σ _ (y xs q) p
  · have e : i = xs.length := by omega
    subst e
    exact .inl ⟨⟨xs, q, Nat.le_refl _⟩, hd σ H p⟩
theorem for_range {lo : Int} {n : Nat} {g : TG} {tb : TS} {D : Ends} {σ : St} {H : Hp} (Pv : Nat → St → Hp → Prop) (h0 : Pv 0 σ H)
    (hs : ∀ i σ H, i < n → Pv i σ H → g (.int (lo + i)) σ H fun σ2 H2 => tb { D with nx := Pv (i + 1), ct := Pv (i + 1), bk := D.nx } σ2 H2) (hd : ∀ σ H, Pv n σ H → D.nx σ H) :
    ∃ W : Nat → Nat → St → Hp → Prop, (∃ m, W 0 m σ H) ∧ ∀ i m σ H, W i m σ H →
      ((Itr lo n).stop i H ∧ D.nx σ H) ∨ ((Itr lo n).go i H ∧ ∃ N : St → Hp → Prop, (∀ σ' H', N σ' H' → ∃ m', m' < m ∧ W (i + 1) m' σ' H') ∧ ∀ x H', (Itr lo n).yld i H x H' → g x σ H' fun σ2 H2 => tb { D with nx := N, ct := N, bk := D.nx } σ2 H2) := by
  refine ⟨fun i m σ H => m = n - i ∧ i ≤ n ∧ Pv i σ H, ⟨n, by simp, Nat.zero_le _, h0⟩, ?_⟩
  rintro i m σ H ⟨rfl, hi, p⟩
  by_cases hlt : i < n
  · refine .inr ⟨hlt, Pv (i + 1), fun σ' H' p' => ⟨n - (i + 1), by omega, rfl, hlt, p'⟩, fun x H' y => ?_⟩
    obtain ⟨e, y⟩ := y
    subst e y
    exact hs i σ _ hlt p
  · have e : i = n := by omega
    subst e
    exact .inl ⟨Nat.le_refl _, hd σ H p⟩
end L2
namespace L2
open PySem PySem.Spec PyProof.Rows
abbrev R2 := V → V → Hp → VK → Prop
def OpR (X : Cx) (f : Value → Value → Sem Value) (r : R2) : Prop :=
  ∀ (pins : List (Addr × Obj)) (s : Shared) (σ : St) (H : Hp) (x y : V) (v u : Value) (Q : VK), Inv X pins σ H s → RelV x v → RelV y u → r x y H Q →
    wpAny (model X.prog X.w) X.A (f v u) (EP X pins σ Q) X.xe s
def UnR (X : Cx) (f : Value → Sem Value) (r : V → Hp → VK → Prop) : Prop :=
  ∀ (pins : List (Addr × Obj)) (s : Shared) (σ : St) (H : Hp) (x : V) (v : Value) (Q : VK), Inv X pins σ H s → RelV x v → r x H Q →
    wpAny (model X.prog X.w) X.A (f v) (EP X pins σ Q) X.xe s
def CallR (X : Cx) (f : Value) (r : List V → Hp → VK → Prop) : Prop :=
  ∀ (pins : List (Addr × Obj)) (s : Shared) (σ : St) (H : Hp) (xs : List V) (us : List Value) (Q : VK), Inv X pins σ H s → Vals xs us → r xs H Q →
    wpAny (model X.prog X.w) X.A (call f us) (EP X pins σ Q) X.xe s
def TruR (X : Cx) (r : V → Hp → (Bool → Hp → Prop) → Prop) : Prop :=
  ∀ (pins : List (Addr × Obj)) (s : Shared) (σ : St) (H : Hp) (x : V) (v : Value) (Q : Bool → Hp → Prop), Inv X pins σ H s → RelV x v → r x H Q →
    wpAny (model X.prog X.w) X.A (truthy v) (TP X pins σ Q) X.xe s
def tOp (r : R2) (ta tb : TE) : TE := fun σ H Q => ta σ H fun x H1 => tb σ H1 fun y H2 => r x y H2 Q
def tUn (r : V → Hp → VK → Prop) (ta : TE) : TE := fun σ H Q => ta σ H fun x H1 => r x H1 Q
def rI (C : Int → Int → Prop) (g : Int → Int → V) : R2 := fun x y H Q => ∃ i j, x = .int i ∧ y = .int j ∧ C i j ∧ Q (g i j) H
def rI0 (g : Int → Int → V) : R2 := fun x y H Q => ∃ i j, x = .int i ∧ y = .int j ∧ Q (g i j) H
def rU (g : Int → V) : V → Hp → VK → Prop := fun x H Q => ∃ i, x = .int i ∧ Q (g i) H
section
variable {X : Cx} {a b c : Expr} {ta tb tc : TE} {pos : Pos}
theorem binT (ha : PE X a ta) (hb : PE X b tb) {pins : List (Addr × Obj)} {s : Shared} {σ : St} {H : Hp} {R : V → V → Hp → Prop} (I : Inv X pins σ H s)
    (h : ta σ H fun x H1 => tb σ H1 fun y H2 => R x y H2) {Q : Value → Shared → Prop} {f : Value → Value → Sem Value}
    (hf : ∀ v u s2 x y H2, Inv X pins σ H2 s2 → RelV x v → RelV y u → R x y H2 → wpAny (model X.prog X.w) X.A (f v u) Q X.xe s2) :
    wpAny (model X.prog X.w) X.A (eval a X.env) (fun v s₁ => wpAny (model X.prog X.w) X.A (eval b X.env) (fun u s₂ => wpAny (model X.prog X.w) X.A (f v u) Q X.xe s₂) X.xe s₁) X.xe s := by
  refine thnE (ha pins s σ H _ I h) fun v s1 x H1 I1 r1 q1 => ?_
  refine thnE (hb pins s1 σ H1 _ I1 q1) fun u s2 y H2 I2 r2 q2 => ?_
  exact hf v u s2 x y H2 I2 r1 r2 q2
theorem pe_op {op : Operator} {r : R2} (ho : OpR X (binaryOp op) r) (ha : PE X a ta) (hb : PE X b tb) : PE X (.BinOp a op b pos) (tOp r ta tb) := by
  intro pins s σ H Q I h
  exact wpAny_BinOp (binT ha hb I h fun v u s2 x y H2 I2 rx ry q => ho pins s2 σ H2 x y v u Q I2 rx ry q)
theorem pe_un {op : UnaryOp} {r : V → Hp → VK → Prop} (ho : UnR X (unaryOp op) r) (ha : PE X a ta) : PE X (.UnaryOp op a pos) (tUn r ta) := by
  intro pins s σ H Q I h
  exact UnaryOp_ (thnE (ha pins s σ H _ I h) fun v s1 x H1 I1 r1 q1 => ho pins s1 σ H1 x v Q I1 r1 q1)
theorem opI {f : Value → Value → Sem Value} {C : Int → Int → Prop} {g : Int → Int → Int}
    (rule : ∀ (i j : Int) (t u : Tok) (s : Shared) (Q : Value → Shared → Prop) (E : Value → Shared → Prop), C i j → Q (.int (g i j) s.toks) { s with toks := s.toks + 1 } → wpAny (model X.prog X.w) X.A (f (.int i t) (.int j u)) Q E s) :
    OpR X f (rI C fun i j => .int (g i j)) := by
  intro pins s σ H x y v u Q I rx ry h
  obtain ⟨i, j, rfl, rfl, hc, q⟩ := h
  obtain ⟨t, rfl⟩ := rx
  obtain ⟨t', rfl⟩ := ry
  exact rule i j t t' s _ _ hc ⟨.int (g i j), H, I.tok _, ⟨_, rfl⟩, q⟩
theorem opI0 {f : Value → Value → Sem Value} {g : Int → Int → Int}
    (rule : ∀ (i j : Int) (t u : Tok) (s : Shared) (Q : Value → Shared → Prop) (E : Value → Shared → Prop), Q (.int (g i j) s.toks) { s with toks := s.toks + 1 } → wpAny (model X.prog X.w) X.A (f (.int i t) (.int j u)) Q E s) :
    OpR X f (rI0 fun i j => .int (g i j)) := by
  intro pins s σ H x y v u Q I rx ry h
  obtain ⟨i, j, rfl, rfl, q⟩ := h
  obtain ⟨t, rfl⟩ := rx
  obtain ⟨t', rfl⟩ := ry
  exact rule i j t t' s _ _ ⟨.int (g i j), H, I.tok _, ⟨_, rfl⟩, q⟩
theorem opB0 {f : Value → Value → Sem Value} {g : Int → Int → Bool}
    (rule : ∀ (i j : Int) (t u : Tok) (s : Shared) (Q : Value → Shared → Prop) (E : Value → Shared → Prop), Q (.bool (g i j)) s → wpAny (model X.prog X.w) X.A (f (.int i t) (.int j u)) Q E s) :
    OpR X f (rI0 fun i j => .bl (g i j)) := by
  intro pins s σ H x y v u Q I rx ry h
  obtain ⟨i, j, rfl, rfl, q⟩ := h
  obtain ⟨t, rfl⟩ := rx
  obtain ⟨t', rfl⟩ := ry
  exact rule i j t t' s _ _ ⟨.bl (g i j), H, I, rfl, q⟩
def CDiv (i j : Int) : Prop := 0 < j ∧ j < 1073741824
def CPow (i j : Int) : Prop := 0 ≤ j ∧ j ≤ 1000000 ∧ i.natAbs < 2 ^ 64
def CMul (i j : Int) : Prop := (-(2 ^ 64) < i ∧ i < 2 ^ 64) ∨ (-(2 ^ 64) < j ∧ j < 2 ^ 64)
theorem CMul.ok {i j : Int} (h : CMul i j) : IntMulOk i j := by
  rcases h with ⟨h1, h2⟩ | ⟨h1, h2⟩
  · exact .of_left (intBits_le_64 h1 h2)
  · exact .of_right (intBits_le_64 h1 h2)
theorem op_add : OpR X (binaryOp .Add) (rI0 fun i j => .int (i + j)) := opI0 fun _ _ _ _ _ _ _ q => add_int q
theorem op_sub : OpR X (binaryOp .Sub) (rI0 fun i j => .int (i - j)) := opI0 fun _ _ _ _ _ _ _ q => sub_int q
theorem op_mul : OpR X (binaryOp .Mult) (rI CMul fun i j => .int (i * j)) := opI fun _ _ _ _ _ _ _ hc q => mul_int q hc.ok
theorem op_fdiv : OpR X (binaryOp .FloorDiv) (rI CDiv fun i j => .int (i / j)) := opI fun i j _ _ _ _ _ hc q => by
  have h1 : (0 : Int) < j := hc.1
  have h2 : j < 1073741824 := hc.2
  exact floordiv_int (by omega) (by rw [Int.fdiv_eq_ediv_of_nonneg i (by omega)]; exact q) (.inl (PyProof.noPylong_small (by omega)))
theorem op_mod : OpR X (binaryOp .Mod) (rI (fun _ j => 0 < j) fun i j => .int (i % j)) := opI fun i j _ _ _ _ _ hc q => by
  have h1 : (0 : Int) < j := hc
  exact mod_int' (by omega) (by rw [Int.fmod_eq_emod_of_nonneg i (by omega)]; exact q)
theorem op_pow : OpR X (binaryOp .Pow) (rI CPow fun i j => .int (i ^ j.toNat)) := opI fun _ _ _ _ _ _ _ hc q => pow_int_small hc.1 hc.2.1 hc.2.2 q
theorem unI {f : Value → Sem Value} {g : Int → Int}
    (rule : ∀ (i : Int) (t : Tok) (s : Shared) (Q : Value → Shared → Prop) (E : Value → Shared → Prop), Q (.int (g i) s.toks) { s with toks := s.toks + 1 } → wpAny (model X.prog X.w) X.A (f (.int i t)) Q E s) :
    UnR X f (rU fun i => .int (g i)) := by
  intro pins s σ H x v Q I rx h
  obtain ⟨i, rfl, q⟩ := h
  obtain ⟨t, rfl⟩ := rx
  exact rule i t s _ _ ⟨.int (g i), H, I.tok _, ⟨_, rfl⟩, q⟩
theorem un_neg : UnR X (unaryOp .USub) (rU fun i => .int (-i)) := unI fun _ _ _ _ _ q => neg_int q
end
def scal : V → V → Bool
  | .non, .non => true | .non, .int _ => true | .int _, .non => true | .non, .bl _ => true | .bl _, .non => true | .non, .str _ => true | .str _, .non => true
  | .int _, .int _ => true | .bl _, .bl _ => true | .str _, .str _ => true | .byt _, .byt _ => true
  | .int _, .str _ => true | .str _, .int _ => true | .bl _, .str _ => true | .str _, .bl _ => true
  | _, _ => false
def rEq : R2 := fun x y H Q => scal x y = true ∧ Q (.bl (decide (x = y))) H
def rNe : R2 := fun x y H Q => scal x y = true ∧ Q (.bl (!decide (x = y))) H
theorem dec_int {i j : Int} : decide (V.int i = V.int j) = (i == j) := by
  rw [Bool.eq_iff_iff]
  simp
theorem dec_bl {i j : Bool} : decide (V.bl i = V.bl j) = (i == j) := by
  rw [Bool.eq_iff_iff]
  simp
theorem dec_str {i j : Str} : decide (V.str i = V.str j) = (i == j) := by
  rw [Bool.eq_iff_iff]
  simp
theorem dec_byt {i j : Array UInt8} : decide (V.byt i = V.byt j) = (i.toList == j.toList) := by
  rw [Bool.eq_iff_iff]
  cases i
  cases j
  simp
section
variable {X : Cx} {a b c : Expr} {ta tb tc : TE} {pos : Pos}
theorem fin_bl {pins : List (Addr × Obj)} {σ : St} {H : Hp} {s : Shared} {Q : VK} {k k' : Bool} (I : Inv X pins σ H s) (q : Q (.bl k) H) (e : k = k') : EP X pins σ Q (.bool k') s := by
  subst e
  exact ⟨.bl k, H, I, rfl, q⟩
theorem op_eq : OpR X (compareOp .Eq) rEq := by
  intro pins s σ H x y v u Q I rx ry h
  obtain ⟨hs, q⟩ := h
  cases x with
  | non =>
    cases rx
    cases y with
    | non => cases ry; exact PySem.EqNone.eq_none_none (fin_bl I q (by simp))
    | bl j => cases ry; exact PySem.EqNone.eq_none_bool (fin_bl I q (by simp))
    | int j => obtain ⟨t', rfl⟩ := ry; exact PySem.EqNone.eq_none_int (fin_bl I q (by simp))
    | str j => obtain ⟨t', rfl⟩ := ry; exact PySem.EqNone.eq_none_str (fin_bl I q (by simp))
    | _ => exact absurd (show false = true from hs) Bool.false_ne_true
  | bl i =>
    cases rx
    cases y with
    | non => cases ry; exact PySem.EqNone.eq_bool_none (fin_bl I q (by simp))
    | bl j => cases ry; exact eq_bool (fin_bl I q dec_bl)
    | str j => obtain ⟨t', rfl⟩ := ry; exact PySem.EqMixed.eq_bool_str (fin_bl I q (by simp))
    | _ => exact absurd (show false = true from hs) Bool.false_ne_true
  | int i =>
    obtain ⟨t, rfl⟩ := rx
    cases y with
    | non => cases ry; exact PySem.EqNone.eq_int_none (fin_bl I q (by simp))
    | int j => obtain ⟨t', rfl⟩ := ry; exact eq_int (fin_bl I q dec_int)
    | str j => obtain ⟨t', rfl⟩ := ry; exact PySem.EqMixed.eq_int_str (fin_bl I q (by simp))
    | _ => exact absurd (show false = true from hs) Bool.false_ne_true
  | str i =>
    obtain ⟨t, rfl⟩ := rx
    cases y with
    | non => cases ry; exact PySem.EqNone.eq_str_none (fin_bl I q (by simp))
    | bl j => cases ry; exact PySem.EqMixed.eq_str_bool (fin_bl I q (by simp))
    | int j => obtain ⟨t', rfl⟩ := ry; exact PySem.EqMixed.eq_str_int (fin_bl I q (by simp))
    | str j => obtain ⟨t', rfl⟩ := ry; exact eq_str (fin_bl I q dec_str)
    | _ => exact absurd (show false = true from hs) Bool.false_ne_true
  | byt i =>
    obtain ⟨t, rfl⟩ := rx
    cases y with
    | byt j => obtain ⟨t', rfl⟩ := ry; exact PySem.W.eq_bytes (fin_bl I q dec_byt)
    | _ => exact absurd (show false = true from hs) Bool.false_ne_true
  | _ => cases y <;> exact absurd (show false = true from hs) Bool.false_ne_true
theorem op_ne : OpR X (compareOp .NotEq) rNe := by
  intro pins s σ H x y v u Q I rx ry h
  obtain ⟨hs, q⟩ := h
  cases x with
  | non =>
    cases rx
    cases y with
    | non => cases ry; exact PySem.EqNone.ne_none_none (fin_bl I q (by simp))
    | bl j => cases ry; exact PySem.EqNone.ne_none_bool (fin_bl I q (by simp))
    | int j => obtain ⟨t', rfl⟩ := ry; exact PySem.EqNone.ne_none_int (fin_bl I q (by simp))
    | str j => obtain ⟨t', rfl⟩ := ry; exact PySem.EqNone.ne_none_str (fin_bl I q (by simp))
    | _ => exact absurd (show false = true from hs) Bool.false_ne_true
  | bl i =>
    cases rx
    cases y with
    | non => cases ry; exact PySem.EqNone.ne_bool_none (fin_bl I q (by simp))
    | bl j => cases ry; exact ne_bool (fin_bl I q (congrArg not dec_bl))
    | str j => obtain ⟨t', rfl⟩ := ry; exact PySem.EqMixed.ne_bool_str (fin_bl I q (by simp))
    | _ => exact absurd (show false = true from hs) Bool.false_ne_true
  | int i =>
    obtain ⟨t, rfl⟩ := rx
    cases y with
    | non => cases ry; exact PySem.EqNone.ne_int_none (fin_bl I q (by simp))
    | int j => obtain ⟨t', rfl⟩ := ry; exact ne_int (fin_bl I q (congrArg not dec_int))
    | str j => obtain ⟨t', rfl⟩ := ry; exact PySem.EqMixed.ne_int_str (fin_bl I q (by simp))
    | _ => exact absurd (show false = true from hs) Bool.false_ne_true
  | str i =>
    obtain ⟨t, rfl⟩ := rx
    cases y with
    | non => cases ry; exact PySem.EqNone.ne_str_none (fin_bl I q (by simp))
    | bl j => cases ry; exact PySem.EqMixed.ne_str_bool (fin_bl I q (by simp))
    | int j => obtain ⟨t', rfl⟩ := ry; exact PySem.EqMixed.ne_str_int (fin_bl I q (by simp))
    | str j => obtain ⟨t', rfl⟩ := ry; exact ne_str (fin_bl I q (congrArg not dec_str))
    | _ => exact absurd (show false = true from hs) Bool.false_ne_true
  | byt i =>
    obtain ⟨t, rfl⟩ := rx
    cases y with
    | byt j => obtain ⟨t', rfl⟩ := ry; exact PySem.W.ne_bytes (fin_bl I q (congrArg not dec_byt))
    | _ => exact absurd (show false = true from hs) Bool.false_ne_true
  | _ => cases y <;> exact absurd (show false = true from hs) Bool.false_ne_true
theorem op_lt : OpR X (compareOp .Lt) (rI0 fun i j => .bl (decide (i < j))) := opB0 fun _ _ _ _ _ _ _ q => lt_int q
theorem op_le : OpR X (compareOp .LtE) (rI0 fun i j => .bl (decide (i ≤ j))) := opB0 fun _ _ _ _ _ _ _ q => le_int q
theorem op_gt : OpR X (compareOp .Gt) (rI0 fun i j => .bl (decide (j < i))) := opB0 fun _ _ _ _ _ _ _ q => gt_int q
theorem op_ge : OpR X (compareOp .GtE) (rI0 fun i j => .bl (decide (j ≤ i))) := opB0 fun _ _ _ _ _ _ _ q => ge_int q
theorem nomark (b : Expr) {op : CmpOp} (h : op ≠ .In := by decide) (h2 : op ≠ .NotIn := by decide) : behindInMarks op b = false := by
  have e1 : (op == CmpOp.In) = false := by cases op <;> first | rfl | exact absurd rfl h
  have e2 : (op == CmpOp.NotIn) = false := by cases op <;> first | rfl | exact absurd rfl h2
  cases b <;> simp [behindInMarks, e1, e2]
def tTest (t : TE) : TT := fun σ H Q => t σ H fun x H' => ∃ k, x = .bl k ∧ Q k H'
theorem pt_cmpR {op : CmpOp} {r : R2} (ho : OpR X (compareOp op) r) (ha : PE X a ta) (hb : PE X b tb) (hm : behindInMarks op b = false) : PT X (.Compare a [op] [b] pos) (tTest (tOp r ta tb)) := by
  intro pins s σ H Q I h
  refine wpAny_isTrue_Compare1 (thnE (ha pins s σ H _ I h) fun v s1 x H1 I1 r1 q1 => thnE (hb pins s1 σ H1 _ I1 q1) fun u s2 y H2 I2 r2 q2 =>
    thnE (ho pins s2 σ H2 x y v u _ I2 r1 r2 q2) fun c s3 z H3 I3 r3 ⟨k, e, q3⟩ => ?_) hm
  subst e
  cases r3
  exact wpAny_truthy_bool ⟨H3, I3, q3⟩
def tChain (r r' : R2) (ta tb tc : TE) : TE := fun σ H Q => ta σ H fun x H1 => tb σ H1 fun y H2 => r x y H2 fun z H3 => ∃ k, z = .bl k ∧
  (if k = true then tc σ H3 fun w' H4 => r' y w' H4 Q else Q (.bl false) H3)
theorem pe_chain {op op' : CmpOp} {r r' : R2} (ho : OpR X (compareOp op) r) (ho' : OpR X (compareOp op') r') (ha : PE X a ta) (hb : PE X b tb) (hc : PE X c tc)
    (hm : lastMarks [op, op'] [b, c] = false := by with_unfolding_all rfl) : PE X (.Compare a [op, op'] [b, c] pos) (tChain r r' ta tb tc) := by
  intro pins s σ H Q I h
  refine Compare_chain (thnE (ha pins s σ H _ I h) fun v s1 x H1 I1 r1 q1 => chain_link (thnE (hb pins s1 σ H1 _ I1 q1) fun u s2 y H2 I2 r2 q2 =>
    thnE (ho pins s2 σ H2 x y v u _ I2 r1 r2 q2) fun d s3 z H3 I3 r3 ⟨k, e, q3⟩ => ?_)) hm
  subst e
  cases r3
  refine wpAny_truthy_bool ?_
  cases k with
  | false => exact ite_ff ⟨.bl false, H3, I3, rfl, q3⟩
  | true => exact ite_tt (chain_last (thn (hc pins s3 σ H3 _ I3 q3) fun w' s4 ⟨z', H4, I4, r4, q4⟩ => ho' pins s4 σ H4 y z' u w' Q I4 r2 r4 q4))
theorem pt_chain {op op' : CmpOp} {r r' : R2} (ho : OpR X (compareOp op) r) (ho' : OpR X (compareOp op') r') (ha : PE X a ta) (hb : PE X b tb) (hc : PE X c tc)
    (hm : lastMarks [op, op'] [b, c] = false := by with_unfolding_all rfl) : PT X (.Compare a [op, op'] [b, c] pos) (tTest (tChain r r' ta tb tc)) := by
  intro pins s σ H Q I h
  refine isTrue_chain (thnE (ha pins s σ H _ I h) fun v s1 x H1 I1 r1 q1 => test_link (thnE (hb pins s1 σ H1 _ I1 q1) fun u s2 y H2 I2 r2 q2 =>
    thnE (ho pins s2 σ H2 x y v u _ I2 r1 r2 q2) fun d s3 z H3 I3 r3 ⟨k, e, q3⟩ => ?_)) hm
  subst e
  cases r3
  refine wpAny_truthy_bool ?_
  cases k with
  | false =>
    obtain ⟨k', e', q'⟩ := q3
    cases e'
    exact ite_ff ⟨H3, I3, q'⟩
  | true =>
    refine ite_tt (test_last (thn (hc pins s3 σ H3 _ I3 q3) fun w' s4 ⟨z', H4, I4, r4, q4⟩ => thn (ho' pins s4 σ H4 y z' u w' _ I4 r2 r4 q4) fun d' s5 ⟨z2, H5, I5, r5, k2, e2, q5⟩ => ?_))
    subst e2
    cases r5
    exact wpAny_truthy_bool ⟨H5, I5, q5⟩
def TruV (K : PySem.W.Frag) (x : V) (H : Hp) (k : Bool) : Prop :=
  match x with
  | .non => k = false
  | .bl b => k = b
  | .int i => k = (i != 0)
  | .str y => y.length ≤ sizeLine ∧ k = ((y.length : Int) != 0)
  | .byt y => y.size ≤ sizeLine ∧ k = ((y.size : Int) != 0)
  | .ref p => (∃ xs, SqL K H p xs ∧ k = !xs.isEmpty) ∨ (∃ xs, SqT K H p xs ∧ k = !xs.isEmpty) ∨ ∃ kvs, H p = some (.dK kvs) ∧ k = !kvs.isEmpty
  | _ => False
theorem isEmpty_kv {κ : Type} {kvs : List (κ × V)} {vs : List (κ × Value)} (r : KV kvs vs) : (!vs.isEmpty) = !kvs.isEmpty := by
  cases r <;> rfl
theorem isEmpty_of {xs : List V} {its : List Value} (r : Vals xs its) : (!its.toArray.isEmpty) = !xs.isEmpty := by
  cases r <;> simp
theorem line63 : (sizeLine : Nat) < 2 ^ 63 := by rw [sizeLine_eq]; decide
theorem tru_ok : TruR X (fun x H Q => ∃ k, TruV X.K x H k ∧ Q k H) := by
  intro pins s σ H x v Q I rx h
  obtain ⟨k, e, q⟩ := h
  have hl := line63
  have hs : sizeLine = 16777216 := sizeLine_eq
  cases x with
  | non =>
    cases rx
    have e' : k = false := e
    subst e'
    exact truthy_none ⟨H, I, q⟩
  | bl b =>
    cases rx
    have e' : k = b := e
    subst e'
    exact wpAny_truthy_bool ⟨H, I, q⟩
  | int i =>
    obtain ⟨t, rfl⟩ := rx
    have e' : k = (i != 0) := e
    subst e'
    exact PySem.P.truthy_int ⟨H, I, q⟩
  | str y =>
    obtain ⟨t, rfl⟩ := rx
    obtain ⟨hy, e'⟩ : y.length ≤ sizeLine ∧ k = ((y.length : Int) != 0) := e
    subst e'
    exact PySem.P.truthy_str (by omega) ⟨H, I.tok _, q⟩
  | byt y =>
    obtain ⟨t, rfl⟩ := rx
    obtain ⟨hy, e'⟩ : y.size ≤ sizeLine ∧ k = ((y.size : Int) != 0) := e
    subst e'
    exact PySem.W.truthy_bytes (by omega) ⟨H, I.tok _, q⟩
  | ref p =>
    cases rx
    have e' : (∃ xs, SqL X.K H p xs ∧ k = !xs.isEmpty) ∨ (∃ xs, SqT X.K H p xs ∧ k = !xs.isEmpty) ∨ ∃ kvs, H p = some (.dK kvs) ∧ k = !kvs.isEmpty := e
    rcases e' with ⟨xs, hx, e'⟩ | ⟨xs, hx, e'⟩ | ⟨kvs, hx, e'⟩
    · subst e'
      obtain ⟨its, r, pl, hz⟩ := I.list hx
      have hlen := r.length
      exact wpAny_truthy_list pl.isList (by simp only [List.size_toArray]; omega) ⟨H, I.tok _, by rw [isEmpty_of r]; exact q⟩
    · subst e'
      obtain ⟨its, r, pl, hz⟩ := I.tuple hx
      have hlen := r.length
      exact truthy_tuple pl (by simp only [List.size_toArray]; omega) ⟨H, I.tok _, by rw [isEmpty_of r]; exact q⟩
    · subst e'
      obtain ⟨hz, hS, vs, r, m⟩ : kvs.length ≤ sizeLine ∧ (p == sysModules) = false ∧ ∃ vs, KV kvs vs ∧ s.heap.DictOf (mixKind X.prog X.w) p vs := I.hok p _ hx
      have hlen : kvs.length = vs.length := Paired.length r
      exact wpAny_truthy_dict hS m (by omega) ⟨H, I.tok _, by rw [isEmpty_kv r]; exact q⟩
  | _ => exact (show False from e).elim
theorem pt_truth (ha : PE X a ta) (he : ∀ whole, isTrue a X.env whole = (do let v ← whole; standAt a.pos; holding [v] (truthy v))) :
    PT X a (fun σ H Q => ta σ H fun x H' => ∃ k, TruV X.K x H' k ∧ Q k H') := by
  intro pins s σ H Q I h
  exact isTrue_plain (thnE (ha pins s σ H _ I h) fun v s1 x H1 I1 r1 q1 => tru_ok pins s1 σ H1 x v Q I1 r1 q1) (he _)
theorem vals1 {x : V} {us : List Value} (r : Vals [x] us) : ∃ u, us = [u] ∧ RelV x u := by
  cases r with
  | cons r1 r2 => cases r2; exact ⟨_, rfl, r1⟩
theorem vals2 {x y : V} {us : List Value} (r : Vals [x, y] us) : ∃ u w', us = [u, w'] ∧ RelV x u ∧ RelV y w' := by
  cases r with
  | cons r1 r2 =>
    cases r2 with
    | cons r3 r4 => cases r4; exact ⟨_, _, rfl, r1, r3⟩
theorem call_max2 (hc : X.calm = true) : CallR X (.builtin "max") (fun xs H Q => ∃ i j, xs = [.int i, .int j] ∧ Q (.int (if j > i then j else i)) H) := by
  intro pins s σ H xs us Q I r h
  obtain ⟨i, j, rfl, q⟩ := h
  obtain ⟨u, w', rfl, ⟨t, rfl⟩, ⟨t', rfl⟩⟩ := vals2 r
  refine max_two_ints (I.ok.hd hc) fun h' tk k => ⟨_, H, I.kept k, ?_, q⟩
  by_cases hj : j > i
  · rw [if_pos hj, if_pos hj]; exact ⟨_, rfl⟩
  · rw [if_neg hj, if_neg hj]; exact ⟨_, rfl⟩
theorem call_min2 (hc : X.calm = true) : CallR X (.builtin "min") (fun xs H Q => ∃ i j, xs = [.int i, .int j] ∧ Q (.int (if j < i then j else i)) H) := by
  intro pins s σ H xs us Q I r h
  obtain ⟨i, j, rfl, q⟩ := h
  obtain ⟨u, w', rfl, ⟨t, rfl⟩, ⟨t', rfl⟩⟩ := vals2 r
  refine min_two_ints (I.ok.hd hc) fun h' tk k => ⟨_, H, I.kept k, ?_, q⟩
  by_cases hj : j < i
  · rw [if_pos hj, if_pos hj]; exact ⟨_, rfl⟩
  · rw [if_neg hj, if_neg hj]; exact ⟨_, rfl⟩
end
end L2
namespace L2
open PySem PySem.Spec PyProof.Rows
structure ObjM (h : Heap) (x dx C : Addr) (mA : Str → Option Value) : Prop where
  obj : h.get? x = some (PySem.W.instObj C dx)
  ns : h.Ns1 dx mA
  ne : dx ≠ x
theorem lookIn_ns {h : Heap} {dx : Addr} {mA : Str → Option Value} (n : h.Ns1 dx mA) : ∃ od, h.get? dx = some od ∧ ∀ name, PySem.W.lookIn name od = some (mA name) := by
  obtain ⟨o, es, ep, ho, hd, hk, _, hm⟩ := n
  refine ⟨o, ho, fun name => ?_⟩
  have e := hm name
  unfold nsFind findBy at e
  rw [← Array.find?_toList] at e
  unfold PySem.W.lookIn
  rw [hd]
  dsimp only
  split
  · rename_i y q
    rw [q] at e
    exact congrArg some e
  · rename_i q
    rw [q] at e
    have a : es.toList.any (·.refKey) = false := by
      rw [List.any_eq_false]
      intro y hy
      obtain ⟨z, t, hkey⟩ := hk y (Array.mem_toList_iff.mp hy)
      simp [DictEntry.refKey, hkey]
    have a' : ¬ es.toList.any (·.refKey) = true := by rw [a]; exact Bool.false_ne_true
    rw [if_neg a']
    exact congrArg some e
theorem ObjM.look {h : Heap} {x dx C : Addr} {mA : Str → Option Value} (I : ObjM h x dx C mA) : ∃ od, PySem.W.InstAt h x (PySem.W.instObj C dx) C (some od) ∧ ∀ name, PySem.W.lookIn name od = some (mA name) :=
  let ⟨od, ho, hl⟩ := lookIn_ns I.ns
  ⟨od, ⟨I.obj, rfl, rfl, ho⟩, hl⟩
section
variable {prog : Program} {w : World} {A : Around} {E : Value → Shared → Prop} {s : Shared} {K : PySem.W.Frag} {x dx C f : Addr} {mA : Str → Option Value} {name : Str} {v : Value}
theorem get_map {expr : Bool} {Q : Value → Shared → Prop} (X : K.In s.heap) (I : ObjM s.heap x dx C mA) (hg : PySem.W.plainGet K C name = true) (hh : PySem.W.hasDictIn K C = true)
    (ha : PySem.W.findIn K (.ref C) name = some none) (hv : mA name = some v) (hv' : PySem.W.handedIn v = true) (h : Q v { s with toks := s.toks + 1 }) :
    wpAny (model prog w) A (getAttr (.ref x) name expr) Q E s := by
  obtain ⟨od, J, hl⟩ := I.look
  exact PySem.W.get_value X J (PySem.W.plainGet_of hg).1 (PySem.W.findObj_own hh ha rfl (by rw [hl, hv])) hv' h
theorem set_map {ns : List Str} {Q : Unit → Shared → Prop} (X : K.In s.heap) (I : ObjM s.heap x dx C mA)
    (hs : PySem.W.findIn K (.ref C) "__setattr__" = some (some (.builtin "object.__setattr__"))) (hp : PySem.W.plainOver K C = true) (ht : PySem.W.takerIn K C name = some none) (hh : PySem.W.hasDictIn K C = true)
    (hw : PySem.Within mA ns) (hsz : ns.length ≤ sizeLine)
    (h : ∀ h', ObjM h' x dx C (fun y => if y = name then some v else mA y) → Heap.SameBut dx s.heap h' → Q () { s with heap := h', toks := s.toks + 2 }) :
    wpAny (model prog w) A (setAttr (.ref x) name v) Q E s := by
  obtain ⟨od, J, hl⟩ := I.look
  refine PySem.W.set_plain X J hs (PySem.W.osa_open (s := { s with toks := s.toks + 1 }) (r := none) X J hp ht fun b => ?_)
  obtain ⟨cd, hc, hd'⟩ := PySem.W.any_some hh
  have hx : s.heap.get? x = some ⟨.ref C, some dx, .plain, #[]⟩ := I.obj
  refine wpAny_bind (wpAny_pure (wpAny_bind (wpAny_bind (wpAny_loadPart hx (wpAny_bind (PySem.W.Looks.here (s := { s with toks := s.toks + 1 }) (PySem.W.looks_clsIn X hc) ?_))))))
  rw [hd']
  refine wpAny_pure (a := some dx) (wpAny_bind (wpAny_pure (wpAny_bind ?_)))
  refine wpAny_nsSet1 (s := { s with toks := s.toks + 1 }) I.ns fun h' hn2 hs2 => ?_
  obtain ⟨oD, esD, epD, hoD, hdD, hcD⟩ := hn2.count (PySem.Within.cons name v hw)
  refine wpAny_bind (wpAny_lookBehind hoD (by rw [hdD]; exact pastItsLine_dict (Nat.le_trans hcD (by rw [List.length_cons]; omega))) ?_)
  exact wpAny_pure (h _ ⟨(hs2.2 _ (Ne.symm I.ne)).trans I.obj, hn2, I.ne⟩ hs2)
theorem make_map {R : Result → Shared → Prop} {vs : List Value} {kw : List (Str × Value)} (X : K.In s.heap) (hm : PySem.W.makesIn K C = true)
    (hi : PySem.W.findIn K (.ref C) "__init__" = some (some (.ref f))) (hf : PySem.W.typeIn K (.ref f) = some (.type "function"))
    (h : codeAny (model prog w) (A.under (.builtin "type.__call__" ⟨.ref C :: vs, kw⟩)) (.call (.ref f) ⟨.ref (s.heap.objs.size + 1) :: vs, kw⟩) (PySem.W.InitBack (s.heap.objs.size + 1) R)
      { s with heap := (s.heap.push PySem.W.emptyDict).push (PySem.W.instObj C s.heap.objs.size) }) :
    codeAny (model prog w) A (.call (.ref C) ⟨vs, kw⟩) R s := by
  obtain ⟨hh, g, d, t, os⟩ := s
  exact PySem.W.make_core (PySem.W.makes_of X hm) (PySem.W.looks_findIn X hi) (fun self => PySem.W.bind_fn X self hf) (.inl rfl) h
end
def putF (f : Str) (v : V) : List (Str × V) → List (Str × V)
  | [] => [(f, v)]
  | (g, x) :: r => if g = f then (g, v) :: r else (g, x) :: putF f v r
theorem lookup_putF (f g : Str) (v : V) : ∀ fs : List (Str × V), (putF f v fs).lookup g = if g = f then some v else fs.lookup g
  | [] => by
    show List.lookup g [(f, v)] = _
    by_cases h : g = f
    · have hb : (g == f) = true := beq_iff_eq.mpr h
      simp only [List.lookup, hb, if_pos h]
    · have hb : (g == f) = false := beq_eq_false_iff_ne.mpr h
      simp only [List.lookup, hb, if_neg h]
  | (k, x) :: r => by
    have ih := lookup_putF f g v r
    rw [show putF f v ((k, x) :: r) = (if k = f then (k, v) :: r else (k, x) :: putF f v r) from rfl]
    by_cases hk : k = f
    · rw [if_pos hk]
      by_cases h : g = k
      · have hb : (g == k) = true := beq_iff_eq.mpr h
        simp only [List.lookup, hb, if_pos (h.trans hk)]
      · have hb : (g == k) = false := beq_eq_false_iff_ne.mpr h
        simp only [List.lookup, hb, if_neg (fun e : g = f => h (e.trans hk.symm))]
    · rw [if_neg hk]
      by_cases h : g = k
      · have hb : (g == k) = true := beq_iff_eq.mpr h
        simp only [List.lookup, hb, if_neg (fun e : g = f => hk (h.symm.trans e))]
      · have hb : (g == k) = false := beq_eq_false_iff_ne.mpr h
        simp only [List.lookup, hb]
        exact ih
theorem keys_putF (f : Str) (v : V) : ∀ fs : List (Str × V), f ∈ (putF f v fs).map (·.1) ∧ ∀ g, g ∈ fs.map (·.1) → g ∈ (putF f v fs).map (·.1)
  | [] => ⟨by simp [putF], fun g h => by simp at h⟩
  | (k, x) :: r => by
    obtain ⟨i1, i2⟩ := keys_putF f v r
    rw [show putF f v ((k, x) :: r) = (if k = f then (k, v) :: r else (k, x) :: putF f v r) from rfl]
    by_cases hk : k = f
    · rw [if_pos hk]
      subst hk
      exact ⟨by simp, fun g h => by simpa using h⟩
    · rw [if_neg hk]
      refine ⟨?_, fun g h => ?_⟩
      · rw [List.map_cons]
        exact List.mem_cons_of_mem _ i1
      · rw [List.map_cons] at h ⊢
        rcases List.mem_cons.mp h with e | e
        · exact List.mem_cons.mpr (.inl e)
        · exact List.mem_cons_of_mem _ (i2 g e)
theorem length_putF (f : Str) (v : V) : ∀ fs : List (Str × V), (putF f v fs).length ≤ fs.length + 1
  | [] => by simp [putF]
  | (k, x) :: r => by
    have ih := length_putF f v r
    rw [show putF f v ((k, x) :: r) = (if k = f then (k, v) :: r else (k, x) :: putF f v r) from rfl]
    by_cases hk : k = f
    · rw [if_pos hk, List.length_cons, List.length_cons]; omega
    · rw [if_neg hk, List.length_cons, List.length_cons]; omega
theorem RelO.some_of {v : V} {o : Option Value} (r : RelO (some v) o) : ∃ u, o = some u ∧ RelV v u := by
  cases o with
  | none => exact (show False from r).elim
  | some u => exact ⟨u, rfl, r⟩
theorem handed_of {v : V} {u : Value} (r : RelV v u) : PySem.W.handedIn u = true := by
  cases v with
  | non => cases (show u = Value.none from r); rfl
  | bl b => cases (show u = Value.bool b from r); rfl
  | int i => obtain ⟨t, e⟩ := (show ∃ t, u = Value.int i t from r); cases e; rfl
  | str x => obtain ⟨t, e⟩ := (show ∃ t, u = Value.str x t from r); cases e; rfl
  | byt b => obtain ⟨t, e⟩ := (show ∃ t, u = Value.bytes b t from r); cases e; rfl
  | flt b => obtain ⟨t, e⟩ := (show ∃ t, u = Value.float b t from r); cases e; rfl
  | ref a => cases (show u = Value.ref a from r); rfl
  | ty n => cases (show u = Value.type n from r); rfl
section
variable {P : Program} {w : World} {H H' : Hp} {h h' : Heap} {a C dx : Addr} {fs fs' : List (Str × V)}
theorem ins_get (hok : HOk P w H h) (e : H a = some (.ins C dx fs)) : ∃ mA, ObjM h a dx C mA ∧ (∀ f, RelO (fs.lookup f) (mA f)) ∧ PySem.Within mA (fs.map (·.1)) ∧ fs.length ≤ 1000 ∧ H dx = some (.own a) := by
  obtain ⟨d, z, ne, ob, mA, n, r, q⟩ := (show ObjOk P w H h a (.ins C dx fs) from hok a _ e)
  exact ⟨mA, ⟨ob, n, ne⟩, r, q, z, d⟩
end
structure Cls (K : PySem.W.Frag) (C : Addr) : Prop where
  pg : PySem.W.plainGet K C Str.empty = true
  hd : PySem.W.hasDictIn K C = true
  po : PySem.W.plainOver K C = true
  sa : PySem.W.findIn K (.ref C) "__setattr__" = some (some (.builtin "object.__setattr__"))
theorem Cls.get {K : PySem.W.Frag} {C : Addr} (c : Cls K C) (f : Str) : PySem.W.plainGet K C f = true := c.pg
def NoAttr (K : PySem.W.Frag) (C : Addr) (f : Str) : Prop := PySem.W.findIn K (.ref C) f = some none
theorem NoAttr.taker {K : PySem.W.Frag} {C : Addr} {f : Str} (n : NoAttr K C f) : PySem.W.takerIn K C f = some none := by
  unfold PySem.W.takerIn
  rw [show PySem.W.findIn K (.ref C) f = some none from n]
  rfl
section
variable {X : Cx} {pins : List (Addr × Obj)} {σ : St} {H : Hp} {s : Shared} {a C dx : Addr} {fs : List (Str × V)} {f : Str} {v : V} {A : Around} {E : Value → Shared → Prop}
theorem getattr_ok {b : Bool} {Q : Value → Shared → Prop} (I : Inv X pins σ H s) (e : H a = some (.ins C dx fs)) (c : Cls X.K C) (n : NoAttr X.K C f) (l : fs.lookup f = some v)
    (h : ∀ u s', Inv X pins σ H s' → RelV v u → Q u s') : wpAny (model X.prog X.w) A (getAttr (.ref a) f b) Q E s := by
  obtain ⟨mA, O, r, _, _, _⟩ := ins_get I.hok e
  obtain ⟨u, hu, ru⟩ := RelO.some_of (v := v) (o := mA f) (by rw [← l]; exact r f)
  exact get_map I.kIn O (c.get f) c.hd n hu (handed_of ru) (h u _ (I.tok _) ru)
theorem setattr_ok {y : V} {u : Value} {Q : Unit → Shared → Prop} (I : Inv X pins σ H s) (e : H a = some (.ins C dx fs)) (c : Cls X.K C) (n : NoAttr X.K C f) (hl : fs.length < 1000) (ry : RelV y u)
    (h : ∀ s', Inv X pins σ (upd H a (.ins C dx (putF f y fs))) s' → Q () s') : wpAny (model X.prog X.w) A (setAttr (.ref a) f u) Q E s := by
  obtain ⟨mA, O, r, wi, _, ho⟩ := ins_get I.hok e
  have hz : (fs.map (·.1)).length ≤ sizeLine := by rw [List.length_map, sizeLine_eq]; omega
  refine set_map I.kIn O c.sa c.po n.taker c.hd wi hz fun h' O' sb => h _ ?_
  have hd : ∃ o, h'.get? dx = some o := let ⟨o, _, _, e', _⟩ := O'.ns; ⟨o, e'⟩
  refine I.write (x := a) (e := dx) (by rw [e]; exact True.intro) (.inr ho) (fun b q hb z => (sb.2 b hb).trans z) hd ?_
  refine ⟨by rw [upd_ne O.ne]; exact ho, ?_, O.ne, O'.obj, _, O'.ns, fun g => ?_, fun g hg => ?_⟩
  · have := length_putF f y fs; omega
  · show RelO ((putF f y fs).lookup g) (if g = f then some u else mA g)
    rw [lookup_putF]
    by_cases q : g = f
    · rw [if_pos q, if_pos q]; exact ry
    · rw [if_neg q, if_neg q]; exact r g
  · by_cases q : g = f
    · rw [q]; exact (keys_putF f y fs).1
    · refine (keys_putF f y fs).2 g (wi g fun z => hg ?_)
      show (if g = f then some u else mA g) = none
      rw [if_neg q]; exact z
theorem Inv.made (I : Inv X pins σ H s) : Inv X pins σ (upd (upd H s.heap.objs.size (.own (s.heap.objs.size + 1))) (s.heap.objs.size + 1) (.ins C s.heap.objs.size []))
    { s with heap := (s.heap.push PySem.W.emptyDict).push (PySem.W.instObj C s.heap.objs.size) } := by
  have e1 : (s.heap.push PySem.W.emptyDict).get? s.heap.objs.size = some PySem.W.emptyDict := Heap.get?_push_size s.heap rfl
  have e2 : ((s.heap.push PySem.W.emptyDict).push (PySem.W.instObj C s.heap.objs.size)).get? (s.heap.objs.size + 1) = some (PySem.W.instObj C s.heap.objs.size) := by
    have := Heap.get?_push_size (s.heap.push PySem.W.emptyDict) (o := PySem.W.instObj C s.heap.objs.size) rfl
    rwa [Heap.size_push] at this
  have e3 : (s.heap.push PySem.W.emptyDict).Ns s.heap.objs.size (fun _ => none) := ⟨PySem.W.emptyDict, #[], _, e1, rfl, (fun e he => absurd he (by simp)), fun _ => rfl⟩
  have I1 := I.laid (a := s.heap.objs.size) (o := .own (s.heap.objs.size + 1)) (h' := s.heap.push PySem.W.emptyDict) (t' := s.toks) (fun b u q => Heap.get?_push_of_some _ q) (Nat.le_refl _) ⟨_, e1⟩
  refine I1.laid (a := s.heap.objs.size + 1) (o := .ins C s.heap.objs.size []) (t' := s.toks) (fun b u q => Heap.get?_push_of_some _ q) (Nat.le_of_eq (Heap.size_push _ _)) ?_
  have ne : s.heap.objs.size ≠ s.heap.objs.size + 1 := Nat.ne_of_lt (Nat.lt_succ_self _)
  refine ⟨by rw [upd_ne ne, upd_same], Nat.zero_le _, ne, e2, fun _ => none, (Heap.Ns1.of_empty e3).at fun o q => Heap.get?_push_of_some _ q, fun _ => True.intro, fun y hy => absurd rfl hy⟩
theorem attr_of {prog : Program} {w : World} {env : Env} {e : Expr} {f : Str} {pos : Pos} {s : Shared} {Q : Value → Shared → Prop} (hb : attributeBase e f env (eval e env) = eval e env)
    (h : wpAny (model prog w) A (eval e env) (fun o s₁ => wpAny (model prog w) A (getAttr o f true) Q E s₁) E s) : wpAny (model prog w) A (eval (.Attribute e f pos) env) Q E s :=
  Attribute_any_ h (by rw [arm_eval_Attribute, hb])
end
def tFld (K : PySem.W.Frag) (ta : TE) (f : Str) : TE := fun σ H Q => ta σ H fun x H1 => ∃ a C dx fs v, x = .ref a ∧ H1 a = some (.ins C dx fs) ∧ Cls K C ∧ NoAttr K C f ∧ fs.lookup f = some v ∧ Q v H1
def sFld (K : PySem.W.Frag) (ta tv : TE) (f : Str) : TS := fun D σ H => tv σ H fun y H1 => ta σ H1 fun x H2 => ∃ a C dx fs, x = .ref a ∧ H2 a = some (.ins C dx fs) ∧ Cls K C ∧ NoAttr K C f ∧ fs.length < 1000 ∧
  D.nx σ (upd H2 a (.ins C dx (putF f y fs)))
section
variable {X : Cx} {o e value : Expr} {f : Str} {pos pos' tpos : Pos} {ta tv : TE}
theorem pe_fld (he : PE X e ta) (hb : attributeBase e f X.env (eval e X.env) = eval e X.env) : PE X (.Attribute e f pos) (tFld X.K ta f) := by
  intro pins s σ H Q I h
  refine attr_of hb (thnE (he pins s σ H _ I h) fun u s1 x H1 I1 rx ⟨a, C, dx, fs, v, ex, ea, c, n, l, q⟩ => ?_)
  subst ex
  obtain rfl : u = Value.ref a := rx
  exact getattr_ok I1 ea c n l fun u' s2 I2 ru => ⟨v, H1, I2, ru, q⟩
theorem ps_fld (ha : PE X o ta) (hv : PE X value tv) (hs : swapsWith value (some (.Attribute o f pos')) pos.line X.env = pure false) : PS X (.Assign [.Attribute o f pos'] value pos) (sFld X.K ta tv f) := by
  intro pins s σ H D I h
  refine plainObj_wpAny_Assign_Attribute (thnE (hv pins s σ H _ I h) fun u s1 y H1 I1 ry q => thnE (ha pins s1 σ H1 _ I1 q) fun ov s2 x H2 I2 rx ⟨a, C, dx, fs, ex, ea, c, n, l, q2⟩ => ?_) hs
  subst ex
  obtain rfl : ov = Value.ref a := rx
  exact setattr_ok I2 ea c n l ry fun s3 I3 => ⟨σ, _, I3, q2⟩
end
section
variable {X : Cx} {pins : List (Addr × Obj)} {σ : St} {H : Hp} {s : Shared} {A : Around} {E : Value → Shared → Prop} {Q : Value → Shared → Prop} {c : Value} {b : Bool}
end
end L2
namespace L2
open PySem PySem.Spec PyProof.Rows
structure Room (k : Nat) (A : Around) : Prop where
  hd : A.handled = none
  dp : A.depth + 3 * k + 5 < recursionLimit
  un : A.units + 16 * k + 200 < cLine
theorem Room.mono {j k : Nat} {A : Around} (r : Room k A) (h : j ≤ k) : Room j A := ⟨r.hd, by have := r.dp; omega, by have := r.un; omega⟩
theorem Room.deeper {k : Nat} {A : Around} (r : Room (k + 1) A) (env : Env) : Room k (A.deeper env) :=
  ⟨r.hd, by have := r.dp; show A.depth + 1 + 3 * k + 5 < _; omega, by have := r.un; show A.units + 3 + 16 * k + 200 < _; omega⟩
theorem make_depth {A : Around} {C : Addr} {us : List Value} {kw : List (Str × Value)} : (A.under (.builtin "type.__call__" ⟨.ref C :: us, kw⟩)).depth = A.depth + 1 := by
  first | rfl | simp [Around.under, Code.weight, Code.isCreation, Code.isGuard, Code.isCaller, Code.frames, Code.isFrame, guardIds]
theorem make_units {A : Around} {C : Addr} {us : List Value} {kw : List (Str × Value)} : (A.under (.builtin "type.__call__" ⟨.ref C :: us, kw⟩)).units = A.units + 1 := by
  first | rfl | simp [Around.under, Code.cUnits, Code.frames, Code.isFrame]
theorem Room.make {k : Nat} {A : Around} (r : Room (k + 1) A) (C : Addr) (us : List Value) (kw : List (Str × Value)) : Room k (A.under (.builtin "type.__call__" ⟨.ref C :: us, kw⟩)) :=
  ⟨r.hd, by have := r.dp; rw [make_depth]; omega, by have := r.un; rw [make_units]; omega⟩
theorem Room.depth {k : Nat} {A : Around} (r : Room k A) : A.depth < recursionLimit := by have := r.dp; omega
theorem Room.units {k : Nat} {A : Around} (r : Room k A) : A.units + 64 < cLine := by have := r.un; omega
def tNil : TA := fun _ H Q => Q [] H
def tCons (ta : TE) (tr : TA) : TA := fun σ H Q => ta σ H fun x H1 => tr σ H1 fun xs H2 => Q (x :: xs) H2
section
variable {X : Cx} {e : Expr} {es : List Expr} {te : TE} {t : TA} {pos : Pos}
theorem pa_nil : PA X [] tNil := fun _ _ _ _ H Q I h => Calls.spliced_nil ⟨[], H, I, .nil, h⟩
theorem pa_cons (ha : PE X e te) (hr : PA X es t) (hs : starEach (e :: es) X.env = (false, eval e X.env) :: starEach es X.env := by rfl) : PA X (e :: es) (tCons te t) := by
  intro pos pins s σ H Q I h
  rw [hs]
  show wpAny _ _ (spliced ((false, eval e X.env) :: backTo pos (starEach es X.env))) _ _ s
  refine Calls.spliced_cons (thnE (ha pins s σ H _ I h) fun u s1 x H1 I1 r1 q1 => ?_)
  exact thnA (hr pos pins s1 σ H1 _ I1 q1) fun us s2 xs H2 I2 r2 q2 => ⟨x :: xs, H2, I2, .cons r1 r2, q2⟩
def tTup (t : TA) : TE := fun σ H Q => t σ H fun xs H1 => xs.length ≤ sizeLine ∧ ∀ p, H1 p = none → Q (.ref p) (upd H1 p (.tup xs))
def tLst (t : TA) : TE := fun σ H Q => t σ H fun xs H1 => xs.length ≤ sizeLine ∧ ∀ p, H1 p = none → Q (.ref p) (upd H1 p (.lst xs))
theorem pe_tup {x1} (h : PA X es t) : PE X (.Tuple es x1 pos) (tTup t) := by
  intro pins s σ H Q I hq
  refine wpAny_Tuple_spliced (thnA (h pos pins s σ H _ I hq) fun us s1 xs H1 I1 r ⟨z, q⟩ => ⟨by rw [← r.length]; exact z, ?_⟩)
  have hf : H1 s1.heap.objs.size = none := I1.hok.fresh (Nat.le_refl _)
  refine ⟨.ref s1.heap.objs.size, upd H1 s1.heap.objs.size (.tup xs), I1.laid (t' := s1.toks) (fun b u e => Heap.get?_push_of_some _ e) (Nat.le_refl _) ?_, rfl, q _ hf⟩
  exact ⟨z, us, r, ⟨_, Heap.get?_push_size _ rfl, rfl, _, rfl⟩⟩
theorem pe_lst (h : PA X es t) : PE X (.List es pos) (tLst t) := by
  intro pins s σ H Q I hq
  refine wpAny_List_spliced (thnA (h pos pins s σ H _ I hq) fun us s1 xs H1 I1 r ⟨z, q⟩ => ⟨by rw [← r.length]; exact z, ?_⟩)
  have hf : H1 s1.heap.objs.size = none := I1.hok.fresh (Nat.le_refl _)
  refine ⟨.ref s1.heap.objs.size, upd H1 s1.heap.objs.size (.lst xs), I1.laid (t' := s1.toks) (fun b u e => Heap.get?_push_of_some _ e) (Nat.le_refl _) ?_, rfl, q _ hf⟩
  exact ⟨z, us, 0, r, Heap.get?_push_size _ rfl⟩
end
abbrev Sp := List V → Hp → VK → XK → Prop
abbrev CXT := List Env → Hp → Shared → XK → Value → Shared → Prop
structure Env0 (P : Program) (w : World) (K : PySem.W.Frag) (mg : Str → Option Value) (base : Heap) (A : Around) (outer : List Env) (s : Shared) (H : Hp) : Prop where
  frames : A.frames = some outer
  mod : Mod K mg base
  bs : ∀ b o, base.get? b = some o → s.heap.get? b = some o ∧ H b = none
  bsz : base.objs.size ≤ s.heap.objs.size
  funs : s.heap.FunFrames base outer
  frf : ∀ b ∈ frs outer, H b = none
  hok : HOk P w H s.heap
  bare : AllBare s.gens
def CE (outer : List Env) (P : Program) (w : World) (H : Hp) (s : Shared) (Q : VK) (u : Value) (s' : Shared) : Prop :=
  ∃ v H', s'.os = s.os ∧ AllBare s'.gens ∧ Un (frs outer) [] H H' s.heap s'.heap ∧ HOk P w H' s'.heap ∧ RelV v u ∧ Q v H'
def CR (CX : CXT) (outer : List Env) (P : Program) (w : World) (H : Hp) (s : Shared) (Q : VK) (E : XK) (r : Result) (s' : Shared) : Prop :=
  match r with
  | .ok (.ret u) => CE outer P w H s Q u s'
  | .ok _ => False
  | .error e => CX outer H s E e s'
structure FnOk (P : Program) (w : World) (K : PySem.W.Frag) (mg : Str → Option Value) (base : Heap) (CX : CXT) (k : Nat) (f : Addr) (fd : FuncData) (ps : List Str) (sp : Sp) : Prop where
  len : ∀ vs H Q E, sp vs H Q E → vs.length = ps.length
  run : ∀ (A : Around) (outer : List Env) (s : Shared) (H : Hp) (args : Args) (us : List Value) (vs : List V) (Q : VK) (E : XK), Room k A → Env0 P w K mg base A outer s H → BindsTo s fd args (ps.zip us) → Vals vs us → sp vs H Q E →
    codeAny (model P w) A (.call (.ref f) args) (CR CX outer P w H s Q E) s
theorem Env0.make {P : Program} {w : World} {K : PySem.W.Frag} {mg : Str → Option Value} {base : Heap} {A : Around} {outer : List Env} {s : Shared} {H : Hp} (e : Env0 P w K mg base A outer s H) (C : Addr) (us : List Value) (kw : List (Str × Value)) :
    Env0 P w K mg base (A.under (.builtin "type.__call__" ⟨.ref C :: us, kw⟩)) outer s H := ⟨by first | exact e.frames | (simpa [Around.under, Code.envs, Code.isFrame, pushEnvs] using e.frames), e.mod, e.bs, e.bsz, e.funs, e.frf, e.hok, e.bare⟩
section
variable {X : Cx} {pins : List (Addr × Obj)} {σ : St} {H : Hp} {s s' : Shared}
theorem Inv.env0 (I : Inv X pins σ H s) : Env0 X.prog X.w X.K X.mg X.base X.A X.stack s H :=
  ⟨I.ok.frames, I.ok.mod, I.bs, Nat.le_trans I.ok.bsz I.sz, I.stack, I.stkFree, I.hok, I.bare⟩
theorem Inv.after {Q : VK} {u : Value} (I : Inv X pins σ H s) (h : CE X.stack X.prog X.w H s Q u s') : EP X pins σ Q u s' := by
  obtain ⟨v, H', os, bare, un, hok, r, q⟩ := h
  obtain ⟨hh, g, d, t, os'⟩ := s'
  obtain rfl : os' = s.os := os
  exact ⟨v, H', I.call (h' := hh) (g' := g) (d' := d) (t' := t) (ch := []) un hok bare (fun b z => absurd z (by simp)), r, q⟩
end
def tCall (sp : Sp) (dvs : List V) (E : XK) (t : TA) : TE := fun σ H Q => t σ H fun vs H1 => sp (vs ++ dvs) H1 Q E
def tMake (C : Addr) (sp : Sp) (dvs : List V) (E : XK) (t : TA) : TE := fun σ H Q => t σ H fun vs H1 => ∀ x dx, H1 x = none → H1 dx = none → dx ≠ x →
  sp (.ref x :: (vs ++ dvs)) (upd (upd H1 dx (.own x)) x (.ins C dx [])) (fun v H2 => v = .non ∧ Q (.ref x) H2) E
def Binds (K : PySem.W.Frag) (fd : FuncData) (ps : List Str) (ds : List Value) : Prop :=
  ∀ (s : Shared) (us : List Value), K.In s.heap → (us ++ ds).length = ps.length → BindsTo s fd ⟨us, []⟩ (ps.zip (us ++ ds))
theorem Binds.all {K : PySem.W.Frag} {fd : FuncData} {ps : List Str} (h : ∀ us : List Value, us.length = ps.length → bindArgs fd ⟨us, []⟩ = pure (ps.zip us)) : Binds K fd ps [] := fun s us _ hl => by
  rw [List.append_nil] at hl ⊢
  exact .of_eq (h us hl)
def Passes (CX : CXT) (X : Cx) (E : XK) : Prop := ∀ (pins : List (Addr × Obj)) (σ : St) (H : Hp) (s : Shared) (e : Value) (s' : Shared), Inv X pins σ H s → CX X.stack H s E e s' → X.xe e s'
section
variable {X : Cx} {CX : CXT} {k : Nat} {f C : Addr} {fd : FuncData} {ps : List Str} {sp : Sp} {dvs : List V} {ds : List Value} {E : XK} {x m : Str} {p pos apos : Pos} {e o : Expr} {es : List Expr} {ta : TE} {t : TA}
theorem run_fn {pins : List (Addr × Obj)} {σ : St} {H : Hp} {s : Shared} {Q : VK} {us : List Value} {vs : List V} (F : FnOk X.prog X.w X.K X.mg X.base CX k f fd ps sp) (hr : Room k X.A) (hb : Binds X.K fd ps ds) (hd : Vals dvs ds) (hx : Passes CX X E)
    (I : Inv X pins σ H s) (r : Vals vs us) (h : sp (vs ++ dvs) H Q E) : wpAny (model X.prog X.w) X.A (call (.ref f) us) (EP X pins σ Q) X.xe s := by
  have r2 : Vals (vs ++ dvs) (us ++ ds) := r.append hd
  have hl : (us ++ ds).length = ps.length := by rw [← r2.length]; exact F.len _ _ _ _ h
  refine wpAny_call (codeAny_mono (F.run X.A X.stack s H ⟨us, []⟩ (us ++ ds) (vs ++ dvs) Q E hr I.env0 (hb s us I.kIn hl) r2 h) fun r s' hq => ?_)
  cases r with
  | error e => exact hx pins σ H s e s' I hq
  | ok fl =>
    cases fl with
    | ret u => exact I.after hq
    | next => exact False.elim hq
    | brk => exact False.elim hq
    | cont => exact False.elim hq
theorem pe_call (F : FnOk X.prog X.w X.K X.mg X.base CX k f fd ps sp) (hr : Room k X.A) (hg : Gl X x) (hm : X.mg x = some (.ref f)) (hk : PySem.W.keepIn X.K (.ref f) = true) (hb : Binds X.K fd ps ds) (hd : Vals dvs ds) (hx : Passes CX X E)
    (ha : PA X (e :: es) t) (hdb : (x == ("__debug__" : Str)) = false := by decide) (he : starEach (e :: es) X.env = (false, eval e X.env) :: starEach es X.env := by rfl) (hpl : (backTo pos (starEach es X.env)).any (·.1) = false := by rfl) :
    PE X (.Call (.Name x p) (e :: es) [] pos) (tCall sp dvs E t) := by
  intro pins s σ H Q I h
  refine wpAny_Call_Name_kw (ld_glob I hg hm ?_ hdb)
  refine PySem.W.callWith_K (h₀ := X.base) I.ok.mod.kin hk (thnA (ha pos pins s σ H _ I h) fun us s1 vs H1 I1 r q => ⟨I1.kIn, ?_⟩) he hpl
  exact run_fn F hr hb hd hx I1 r q
structure Mk (K : PySem.W.Frag) (C f : Addr) : Prop where
  makes : PySem.W.makesIn K C = true
  init : PySem.W.findIn K (.ref C) "__init__" = some (some (.ref f))
  fn : PySem.W.isFn K (.ref f) = true
  kp : PySem.W.keepIn K (.ref C) = true
theorem run_make {pins : List (Addr × Obj)} {σ : St} {H : Hp} {s : Shared} {Q : VK} {us : List Value} {vs : List V} (M : Mk X.K C f) (F : FnOk X.prog X.w X.K X.mg X.base CX k f fd ps sp) (hr : Room (k + 1) X.A) (hb : Binds X.K fd ps ds) (hd : Vals dvs ds)
    (hx : Passes CX X E) (I : Inv X pins σ H s) (r : Vals vs us)
    (h : ∀ x dx, H x = none → H dx = none → dx ≠ x → sp (.ref x :: (vs ++ dvs)) (upd (upd H dx (.own x)) x (.ins C dx [])) (fun v H2 => v = .non ∧ Q (.ref x) H2) E) :
    wpAny (model X.prog X.w) X.A (call (.ref C) us) (EP X pins σ Q) X.xe s := by
  have hq := h (s.heap.objs.size + 1) s.heap.objs.size (I.hok.fresh (Nat.le_succ _)) (I.hok.fresh (Nat.le_refl _)) (Nat.ne_of_lt (Nat.lt_succ_self _))
  have I2 := Inv.made (C := C) I
  have r2 : Vals (V.ref (s.heap.objs.size + 1) :: (vs ++ dvs)) (Value.ref (s.heap.objs.size + 1) :: (us ++ ds)) := .cons rfl (r.append hd)
  have hl : (Value.ref (s.heap.objs.size + 1) :: us ++ ds).length = ps.length := by
    have e := r2.length
    rw [F.len _ _ _ _ hq] at e
    exact e.symm
  refine wpAny_call (make_map (f := f) I.kIn M.makes M.init (beq_iff_eq.mp M.fn) (codeAny_mono (F.run _ X.stack _ _ ⟨Value.ref (s.heap.objs.size + 1) :: us, []⟩ (Value.ref (s.heap.objs.size + 1) :: (us ++ ds)) _ _ E (hr.make C us [])
    (I2.env0.make C us []) (hb _ (Value.ref (s.heap.objs.size + 1) :: us) I2.kIn hl) r2 hq) fun r s' hq' => ?_))
  cases r with
  | error e => exact hx pins σ _ _ e s' I2 hq'
  | ok fl =>
    cases fl with
    | ret u =>
      obtain ⟨v, H', I3, rv, ev, q3⟩ := I2.after hq'
      subst ev
      exact ⟨rv, ⟨V.ref (s.heap.objs.size + 1), H', I3, rfl, q3⟩⟩
    | next => exact False.elim hq'
    | brk => exact False.elim hq'
    | cont => exact False.elim hq'
theorem pe_make (M : Mk X.K C f) (F : FnOk X.prog X.w X.K X.mg X.base CX k f fd ps sp) (hr : Room (k + 1) X.A) (hg : Gl X x) (hm : X.mg x = some (.ref C)) (hb : Binds X.K fd ps ds) (hd : Vals dvs ds) (hx : Passes CX X E)
    (ha : PA X (e :: es) t) (hdb : (x == ("__debug__" : Str)) = false := by decide) (he : starEach (e :: es) X.env = (false, eval e X.env) :: starEach es X.env := by rfl) (hpl : (backTo pos (starEach es X.env)).any (·.1) = false := by rfl) :
    PE X (.Call (.Name x p) (e :: es) [] pos) (tMake C sp dvs E t) := by
  intro pins s σ H Q I h
  refine wpAny_Call_Name_kw (ld_glob I hg hm ?_ hdb)
  refine PySem.W.callWith_K (h₀ := X.base) I.ok.mod.kin M.kp (thnA (ha pos pins s σ H _ I h) fun us s1 vs H1 I1 r q => ⟨I1.kIn, ?_⟩) he hpl
  exact run_make M F hr hb hd hx I1 r q
end
section
variable {X : Cx} {CX : CXT} {k : Nat} {f C : Addr} {fd : FuncData} {ps ks : List Str} {sp : Sp} {E : XK} {x m : Str} {p pos apos kpos : Pos} {e o : Expr} {es : List Expr} {kws : List Keyword} {te ta : TE} {t tk : TA} {nm : Option Str}
variable {g : List Value → List Value → List Value} {gV : List V → List V → List V}
end
structure FnScope (N P : List Str) (sc : Scope) : Prop where
  kind : sc.kind = .function
  co : sc.isCoroutine = false
  gen : sc.isGenerator = false
  nd : N.Nodup
  pre : N.take P.length = P
  par : ∀ x ∈ P, sc.names.lookup x = some .local ∨ sc.names.lookup x = some .cell
  nofree : ∀ y ∈ sc.names, y.2 ≠ .free
theorem bindL_out {kindOf : Str → Option NameKind} {x : Str} : ∀ {binds : List (Str × Value)} {m : Str → Option Value}, (∀ v, (x, v) ∉ binds) → bindL kindOf binds m x = m x
  | [], _, _ => rfl
  | (n, v) :: r, m, h => by
    unfold bindL
    rw [bindL_out fun w hw => h w (List.mem_cons_of_mem _ hw)]
    split
    · have : x ≠ n := by rintro rfl; exact h v List.mem_cons_self
      simp [this]
    · rfl
theorem bindC_out {kindOf : Str → Option NameKind} {x : Str} : ∀ {binds : List (Str × Value)} {m : Str → Option Value}, (∀ v, (x, v) ∉ binds) → bindC kindOf binds m x = m x
  | [], _, _ => rfl
  | (n, v) :: r, m, h => by
    unfold bindC
    rw [bindC_out fun w hw => h w (List.mem_cons_of_mem _ hw)]
    split
    · rfl
    · have : x ≠ n := by rintro rfl; exact h v List.mem_cons_self
      simp [this]
theorem bindL_get {kindOf : Str → Option NameKind} {x : Str} {v : Value} : ∀ {P : List Str} {vs : List Value} {i : Nat} {m : Str → Option Value}, P.Nodup → P[i]? = some x → vs[i]? = some v → kindOf x = some .local →
    bindL kindOf (P.zip vs) m x = some v
  | [], _, _, _, _, h, _, _ => by simp at h
  | _ :: _, [], _, _, _, _, h, _ => by simp at h
  | p :: P, w :: vs, 0, m, nd, h1, h2, hk => by
    simp at h1 h2; subst h1; subst h2
    show bindL kindOf ((p, w) :: P.zip vs) m p = _
    unfold bindL
    rw [bindL_out fun v hv => (List.nodup_cons.mp nd).1 (List.of_mem_zip hv).1, if_pos hk]
    simp
  | p :: P, w :: vs, i + 1, m, nd, h1, h2, hk => by
    show bindL kindOf ((p, w) :: P.zip vs) m x = _
    unfold bindL
    exact bindL_get (i := i) (List.nodup_cons.mp nd).2 (by simpa using h1) (by simpa using h2) hk
theorem bindC_get {kindOf : Str → Option NameKind} {x : Str} {v : Value} : ∀ {P : List Str} {vs : List Value} {i : Nat} {m : Str → Option Value}, P.Nodup → P[i]? = some x → vs[i]? = some v → kindOf x ≠ some .local →
    bindC kindOf (P.zip vs) m x = some v
  | [], _, _, _, _, h, _, _ => by simp at h
  | _ :: _, [], _, _, _, _, h, _ => by simp at h
  | p :: P, w :: vs, 0, m, nd, h1, h2, hk => by
    simp at h1 h2; subst h1; subst h2
    show bindC kindOf ((p, w) :: P.zip vs) m p = _
    unfold bindC
    rw [bindC_out fun v hv => (List.nodup_cons.mp nd).1 (List.of_mem_zip hv).1, if_neg hk]
    simp
  | p :: P, w :: vs, i + 1, m, nd, h1, h2, hk => by
    show bindC kindOf ((p, w) :: P.zip vs) m x = _
    unfold bindC
    exact bindC_get (i := i) (List.nodup_cons.mp nd).2 (by simpa using h1) (by simpa using h2) hk
def start (N : List Str) (vs : List V) : St := vs.map some ++ List.replicate (N.length - vs.length) none
def cxOf (CX : CXT) (P : Program) (w : World) (K : PySem.W.Frag) (mg : Str → Option Value) (base : Heap) (N : List Str) (qual : Str) (scope : Scope) (f : Addr) (cd : Value) (A : Around) (outer : List Env) (s : Shared) (H : Hp) (E : XK) : Cx where
  prog := P
  w := w
  K := K
  mg := mg
  base := base
  A := A.deeper (envOfC qual scope s.heap.objs.size f cd)
  N := N
  s₀ := s
  H₀ := H
  env := envOfC qual scope s.heap.objs.size f cd
  outer := outer
  stack := envOfC qual scope s.heap.objs.size f cd :: outer
  ex := []
  calm := true
  fn := fun _ => true
  pn := []
  xe := fun e s' => wpAny (model P w) (A.deeper (envOfC qual scope s.heap.objs.size f cd)) (leaving (envOfC qual scope s.heap.objs.size f cd) e) (fun _ s'' => CX outer H s E e s'') (fun e' s'' => CX outer H s E e' s'') s'
theorem cell_has {sc : Scope} {n : Nat} {x : Str} (h : sc.names.lookup x = some .cell) : ∃ c, (cellsFrom n sc.names []).lookup x = some c := by
  have q := PySem.W.cellsFrom_some sc.names n [] (.inl h)
  exact Option.isSome_iff_exists.mp q
theorem inv_start {CX : CXT} {P : Program} {w : World} {K : PySem.W.Frag} {mg : Str → Option Value} {base : Heap} {N ps : List Str} {qual : Str} {scope : Scope} {f : Addr} {cd : Value} {A : Around} {outer : List Env} {s s1 : Shared} {H : Hp} {E : XK} {us : List Value} {vs : List V}
    (S : FnScope N ps scope) (hd : A.handled = none) (e0 : Env0 P w K mg base A outer s H) (hl : vs.length = ps.length) (r : Vals vs us)
    (x : InCallC s s.heap.objs.size (bindL (envOfC qual scope s.heap.objs.size f cd).kindOf (ps.zip us) fun _ => none) (cellsFrom (s.heap.objs.size + 1) scope.names []) (bindC (envOfC qual scope s.heap.objs.size f cd).kindOf (ps.zip us) fun _ => none) s1) :
    Inv (cxOf CX P w K mg base N qual scope f cd A outer s H E) [] (start N vs) H s1 := by
  have hpl : ps.length ≤ N.length := by have := congrArg List.length S.pre; rw [List.length_take] at this; omega
  obtain ⟨h1, tk, rfl, hk⟩ := x.done
  have noA : ∀ b : Addr, b ∉ (cxOf CX P w K mg base N qual scope f cd A outer s H E).ex := fun b z => absurd (show b ∈ ([] : List Addr) from z) (by simp)
  refine ⟨⟨e0.mod, S.kind, rfl, rfl, Nat.le_refl _, fun y z c h1 h2 => ?_, fun y hy => ?_, fun y c _ h => ?_, fun _ => hd, Around.frames_deeper e0.frames, .inr ⟨rfl, rfl⟩, fun b z => absurd z (noA b), e0.bs, e0.bsz, fun b _ _ => noA b, fun b z => absurd z (noA b), e0.funs, e0.frf⟩,
    rfl, e0.bare, Un.kept hk, ⟨_, x.toInCall.ns, fun i y v h1 h2 h3 => ?_⟩, fun y c h => ⟨_, x.cell y c h⟩, e0.hok.fresh (Nat.le_refl _), fun y c h => ?_, fun p hp => absurd (show p ∈ ([] : List (Addr × Obj)) from hp) (by simp), e0.hok.kept hk, ?_⟩
  · exact name_of_addr x.apart (PySem.mem_of_lookup h1) (PySem.mem_of_lookup h2)
  · have hy : scope.names.lookup y = some .cell ∨ scope.names.lookup y = some .free := hy
    rcases hy with hy | hy
    · exact cell_has hy
    · exact absurd rfl (S.nofree _ (PySem.mem_of_lookup hy))
  · exact Nat.le_of_lt (x.above y c (PySem.mem_of_lookup h))
  · have hi : i < vs.length := by
      unfold start at h2
      by_cases hi : i < vs.length
      · exact hi
      · rw [List.getElem?_append_right (by simpa using hi)] at h2
        rw [List.getElem?_replicate] at h2
        split at h2 <;> cases h2
    have ha : vs[i]? = some v := by
      unfold start at h2
      rw [List.getElem?_append_left (by simpa using hi), List.getElem?_map] at h2
      cases e : vs[i]? with
      | none => rw [e] at h2; cases h2
      | some a => rw [e] at h2; cases h2; rfl
    obtain ⟨u, hu, rv⟩ := r.get ha
    have hp : ps[i]? = some y := by
      rw [← S.pre, List.getElem?_take_of_lt (by omega)]; exact h1
    have ndP : ps.Nodup := by rw [← S.pre]; exact S.nd.sublist (List.take_sublist _ _)
    refine ⟨u, rv, ?_⟩
    rcases S.par y (List.mem_of_getElem? hp) with k | k
    · exact .inl ⟨k, bindL_get ndP hp hu k⟩
    · obtain ⟨c, e⟩ := cell_has (n := s.heap.objs.size + 1) k
      refine .inr ⟨.inl k, c, e, ?_⟩
      have q := x.cell y c e
      rw [bindC_get ndP hp hu (by show scope.names.lookup y ≠ _; rw [k]; decide)] at q
      exact q
  · exact e0.hok.fresh (Nat.le_of_lt (x.above y c (PySem.mem_of_lookup h)))
  · unfold start
    show _ = N.length
    rw [List.length_append, List.length_map, List.length_replicate]
    omega
theorem fn_of {CX : CXT} {P : Program} {w : World} {K : PySem.W.Frag} {mg : Str → Option Value} {base : Heap} {k : Nat} {f : Addr} {name qual : Str} {params : Arguments} {body : List Stmt} {scope : Scope} {dV kV doc pm cdv ct oc : Value} {an od : Option Addr}
    {osl : Array (Option Value)} {N ps : List Str} {sp : Sp} (lk : K.lookup f = some ⟨oc, od, .func (PySem.W.fnOf name qual params body scope dV kV doc pm an cdv ct), osl⟩) (hcd : PySem.W.codeIn K cdv qual = true) (S : FnScope N ps scope)
    (len : ∀ vs H Q E, sp vs H Q E → vs.length = ps.length)
    (hbody : ∀ (A : Around) (outer : List Env) (s : Shared) (H : Hp) (vs : List V) (Q : VK) (E : XK), Room k (A.deeper (envOfC qual scope s.heap.objs.size f cdv)) → sp vs H Q E →
      ∃ t, PSs (cxOf CX P w K mg base N qual scope f cdv A outer s H E) body t ∧ t { nx := fun _ H' => Q .non H', rt := Q } (start N vs) H) :
    FnOk P w K mg base CX (k + 1) f (PySem.W.fnOf name qual params body scope dV kV doc pm an cdv ct) ps sp := by
  refine ⟨len, fun A outer s H args us vs Q E hr e0 hb r hsp => ?_⟩
  have hl := len _ _ _ _ hsp
  have KX : K.In s.heap := e0.mod.kin.keeps fun b o e => (e0.bs b o e).1
  have lim : s.heap.NoLimit := e0.mod.nolimit.keeps fun b o e => (e0.bs b o e).1
  have hkind : ∀ y ∈ ps.zip us, scope.names.lookup y.1 = some .local ∨ (scope.names.lookup y.1 = some .cell ∧ ((cellsFrom (s.heap.objs.size + 1) scope.names []).lookup y.1).isSome = true) := fun ⟨n, v⟩ hy => by
    rcases S.par n (List.of_mem_zip hy).1 with q | q
    · exact .inl q
    · exact .inr ⟨q, PySem.W.cellsFrom_some _ _ _ (.inl q)⟩
  refine codeAny_call_function hr.depth (KX _ _ lk) rfl S.co S.gen rfl (PySem.W.codeRec_of KX hcd) (hb _ _ _ _ ?_)
  refine wpAny_newFunctionEnv_cells S.kind hkind fun env he s1 x => ?_
  subst he
  refine ⟨lim.keeps x.toInCall.keep, codeAny_func ?_⟩
  obtain ⟨t, ht, hq⟩ := hbody A outer s H vs Q E (hr.deeper _) hsp
  have I : Inv (cxOf CX P w K mg base N qual scope f cdv A outer s H E) [] (start N vs) H s1 := inv_start S hr.hd e0 hl r x
  refine wpAny_mono (ht [] s1 (start N vs) H _ I hq) (fun fl s' hs => ?_) fun e s' hs => hs
  have fin : ∀ {σ' : St} {H' : Hp} {v : V} {u : Value}, Inv (cxOf CX P w K mg base N qual scope f cdv A outer s H E) [] σ' H' s' → RelV v u → Q v H' → CE outer P w H s Q u s' :=
    fun {σ' H' v u} J rv q => ⟨v, H', J.os, J.bare, J.base, J.hok, rv, q⟩
  cases fl with
  | ret u =>
    obtain ⟨v, σ', H', J, rv, q⟩ := hs
    exact fin J rv q
  | next =>
    obtain ⟨σ', H', J, q⟩ := hs
    exact fin (v := V.non) (u := Value.none) J rfl q
  | brk =>
    obtain ⟨_, _, _, q⟩ := hs
    exact False.elim q
  | cont =>
    obtain ⟨_, _, _, q⟩ := hs
    exact False.elim q
end L2
namespace L2
open PySem PySem.Spec PyProof.Rows
section
variable {X : Cx} {x : Str} {p pos : Pos} {e : Expr} {es : List Expr} {t : TA} {id T : String} {r : List V → Hp → VK → Prop}
def tCB (r : List V → Hp → VK → Prop) (t : TA) : TE := fun σ H Q => t σ H fun vs H1 => r vs H1 Q
theorem pe_callB (hc : CallR X (.builtin id) r) (hg : Gl X x) (hm : X.mg x = none) (hv : bootBuiltins x = some (.builtin id)) (ha : PA X (e :: es) t) (hn : x ≠ "__name__" := by decide) (hdb : (x == ("__debug__" : Str)) = false := by decide)
    (he : starEach (e :: es) X.env = (false, eval e X.env) :: starEach es X.env := by rfl) (hpl : (backTo pos (starEach es X.env)).any (·.1) = false := by rfl) : PE X (.Call (.Name x p) (e :: es) [] pos) (tCB r t) := by
  intro pins s σ H Q I h
  refine wpAny_Call_Name_kw (ld_blt I hg hm hv ?_ hn hdb)
  exact PyProof.Rows.callWith_builtin1 (thnA (ha pos pins s σ H _ I h) fun us s1 vs H1 I1 r1 q1 => hc pins s1 σ H1 vs us Q I1 r1 q1) he hpl
theorem pe_callTy (hc : CallR X (.type T) r) (hg : Gl X x) (hm : X.mg x = none) (hv : bootBuiltins x = some (.type T)) (ha : PA X (e :: es) t) (hn : x ≠ "__name__" := by decide) (hdb : (x == ("__debug__" : Str)) = false := by decide)
    (he : starEach (e :: es) X.env = (false, eval e X.env) :: starEach es X.env := by rfl) (hpl : (backTo pos (starEach es X.env)).any (·.1) = false := by rfl) : PE X (.Call (.Name x p) (e :: es) [] pos) (tCB r t) := by
  intro pins s σ H Q I h
  refine wpAny_Call_Name_kw (ld_blt I hg hm hv ?_ hn hdb)
  exact PyProof.Rows.callWith_type1 (thnA (ha pos pins s σ H _ I h) fun us s1 vs H1 I1 r1 q1 => hc pins s1 σ H1 vs us Q I1 r1 q1) he hpl
end
end L2
namespace HT
open PySem PyProof.Rows
section
open PySem.SeqAt
open PySem.AutoSeq1 (wpAny_loadPart')
open PySem.MeetsSeq PySem.MeetsSeq2 PySem.MeetsSeq3
end
section
variable {prog : Program} {w : World} {A : Around} {E : Value → Shared → Prop} {s : Shared}
def sIx (n d : Nat) : Option Int → Nat
  | none => d
  | some v => if v < 0 then (v + (n : Int)).toNat else min v.toNat n
end
end HT
namespace L2
open PySem PySem.Spec PyProof.Rows
abbrev TO := St → Hp → (Option Int → Hp → Prop) → Prop
def PO (X : Cx) (e : Option Expr) (t : TO) : Prop :=
  ∀ (pins : List (Addr × Obj)) (s : Shared) (σ : St) (H : Hp) (Q : Option Int → Hp → Prop), Inv X pins σ H s → t σ H Q →
    wpAny (model X.prog X.w) X.A (evalPart e X.env) (fun u s' => ∃ o H', Inv X pins σ H' s' ∧ IsPart u o ∧ Q o H') X.xe s
def tPart (t : TE) : TO := fun σ H Q => t σ H fun x H1 => ∃ i, x = .int i ∧ Q (some i) H1
section
variable {X : Cx} {e : Expr} {te : TE} {lo hi : Option Expr} {tl th : TO} {pos p2 : Pos}
theorem po_some (h : PE X e te) : PO X (some e) (tPart te) := by
  intro pins s σ H Q I hw
  rw [evalPart_some]
  refine thnE (h pins s σ H _ I hw) fun u s1 x H1 I1 r1 q1 => ?_
  obtain ⟨i, rfl, q⟩ := q1
  obtain ⟨t, rfl⟩ := r1
  exact ⟨some i, H1, I1, .int i t, q⟩
def SlR (X : Cx) (r : V → Option Int → Option Int → Hp → VK → Prop) : Prop :=
  ∀ (pins : List (Addr × Obj)) (s : Shared) (σ : St) (H : Hp) (x : V) (v vl vu : Value) (lo hi : Option Int) (sl : Addr) (Q : VK), Inv X pins σ H s → RelV x v → s.heap.IsSliceOf sl vl vu .none → IsPart vl lo → IsPart vu hi → r x lo hi H Q →
    ∃ T id, typeLookup (.type T) "__getitem__" = pure (some (.builtin id)) ∧ s.TypeIs v T ∧ wpAny (model X.prog X.w) X.A (getItem v (.ref sl)) (EP X pins σ Q) X.xe s
def tSl (r : V → Option Int → Option Int → Hp → VK → Prop) (te : TE) (tl th : TO) : TE := fun σ H Q => te σ H fun x H1 => tl σ H1 fun l H2 => th σ H2 fun u H3 => r x l u H3 Q
theorem pe_slice {r : V → Option Int → Option Int → Hp → VK → Prop} (hr : SlR X r) (he : PE X e te) (hl : PO X lo tl) (hu : PO X hi th) : PE X (.Subscript e (.Slice lo hi none p2) pos) (tSl r te tl th) := by
  intro pins s σ H Q I h
  refine Subscript_ (thnE (he pins s σ H _ I h) fun v s1 x H1 I1 r1 q1 => ?_)
  refine wpAny_Slice (thn (hl pins s1 σ H1 _ I1 q1) fun vl s2 ⟨l, H2, I2, pl, q2⟩ => thn (hu pins s2 σ H2 _ I2 q2) fun vu s3 ⟨u, H3, I3, pu, q3⟩ => ?_)
  rw [evalPart_none]
  refine wpAny_pure ?_
  have I4 : Inv X pins σ H3 { s3 with heap := s3.heap.push { cls := .type "slice", data := .fields #[vl, vu, .none] } } := I3.kept (t' := s3.toks) fun b ob q => Heap.get?_push_of_some _ q
  obtain ⟨T, id, hT, ht, hg⟩ := hr pins { s3 with heap := s3.heap.push { cls := .type "slice", data := .fields #[vl, vu, .none] } } σ H3 x v vl vu l u s3.heap.objs.size Q I4 r1 (Heap.IsSliceOf.new ..) pl pu q3
  show wpAny (model X.prog X.w) X.A (subscriptTail e (.Slice lo hi none p2) v (.ref s3.heap.objs.size)) (EP X pins σ Q) X.xe { s3 with heap := s3.heap.push { cls := .type "slice", data := .fields #[vl, vu, .none] } }
  exact tail_any (ops := [.ref s3.heap.objs.size, v]) ht hT hg (by with_unfolding_all rfl)
def cutV (xs : List V) (lo hi : Option Int) : List V := (xs.drop (HT.sIx xs.length 0 lo)).take (HT.sIx xs.length xs.length hi - HT.sIx xs.length 0 lo)
theorem cutV_length (xs : List V) (lo hi : Option Int) : (cutV xs lo hi).length ≤ xs.length := by
  unfold cutV
  rw [List.length_take, List.length_drop]
  omega
end
end L2
namespace L2
open PySem PySem.Spec PyProof.Rows
def ixN (n : Nat) (i : Int) : Option Nat := if 0 ≤ i then (if i < n then some i.toNat else none) else if -(n : Int) ≤ i then some (i + n).toNat else none
def atI {α : Type} (xs : List α) (i : Int) : Option α := (ixN xs.length i).bind fun j => xs[j]?
theorem ixN_seq {n : Nat} {i : Int} {j : Nat} (h : ixN n i = some j) : seqIndex? i n = some j ∧ j < n ∧ -(n : Int) ≤ i ∧ i < n := by
  unfold ixN at h
  by_cases h0 : 0 ≤ i
  · rw [if_pos h0] at h
    by_cases h1 : i < n
    · rw [if_pos h1] at h
      have e : i.toNat = j := Option.some.inj h
      exact ⟨by rw [seqIndex_of h0 h1, e], by omega, by omega, h1⟩
    · rw [if_neg h1] at h; cases h
  · rw [if_neg h0] at h
    by_cases h1 : -(n : Int) ≤ i
    · rw [if_pos h1] at h
      have e : (i + n).toNat = j := Option.some.inj h
      exact ⟨by rw [seqIndex_neg (by omega) h1, e], by omega, h1, by omega⟩
    · rw [if_neg h1] at h; cases h
theorem atI_get {α : Type} {xs : List α} {i : Int} {v : α} (h : atI xs i = some v) : ∃ j, seqIndex? i xs.length = some j ∧ xs[j]? = some v ∧ j < xs.length ∧ -(xs.length : Int) ≤ i ∧ i < xs.length := by
  unfold atI at h
  cases e : ixN xs.length i with
  | none => rw [e] at h; cases h
  | some j =>
    rw [e] at h
    obtain ⟨h1, h2, h3, h4⟩ := ixN_seq e
    exact ⟨j, h1, h, h2, h3, h4⟩
theorem atI_nat {α : Type} {xs : List α} {j : Nat} {v : α} (h : xs[j]? = some v) : atI xs (j : Int) = some v := by
  have hj : j < xs.length := (List.getElem?_eq_some_iff.mp h).1
  have e : ixN xs.length (j : Int) = some j := by
    unfold ixN
    rw [if_pos (by omega), if_pos (by omega)]; simp
  unfold atI; rw [e]; exact h
theorem atI_last {α : Type} (xs : List α) (v : α) : atI (xs ++ [v]) (-1) = some v := by
  have hl : (xs ++ [v]).length = xs.length + 1 := by simp
  have e : ixN (xs ++ [v]).length (-1) = some xs.length := by
    unfold ixN
    rw [hl, if_neg (by decide), if_pos (by omega)]
    congr 1
    omega
  unfold atI
  rw [e]
  show (xs ++ [v])[xs.length]? = some v
  simp
def PlainIx (b : Expr) : Prop := ∀ o i, subscripted b false o i = operate [o, i] (getItem o i)
def IxR (X : Cx) (r : R2) : Prop :=
  ∀ (value slice : Expr) (pins : List (Addr × Obj)) (s : Shared) (σ : St) (H : Hp) (x y : V) (v u : Value) (Q : VK), Inv X pins σ H s → RelV x v → RelV y u → r x y H Q →
    subscripted slice false v u = operate [v, u] (getItem v u) → wpAny (model X.prog X.w) X.A (subscriptTail value slice v u) (EP X pins σ Q) X.xe s
def MtR (X : Cx) (id : String) (r : V → List V → Hp → VK → Prop) : Prop :=
  ∀ (pins : List (Addr × Obj)) (s : Shared) (σ : St) (H : Hp) (x : V) (xs : List V) (v : Value) (us : List Value) (Q : VK), Inv X pins σ H s → RelV x v → Vals xs us → r x xs H Q →
    wpAny (model X.prog X.w) X.A (call (.builtin id) (v :: us)) (EP X pins σ Q) X.xe s
section
variable {X : Cx} {a b : Expr} {ta tb : TE} {pos : Pos}
theorem pe_ix {r : R2} (hr : IxR X r) (ha : PE X a ta) (hb : PE X b tb) (hs : PlainIx b) : PE X (.Subscript a b pos) (tOp r ta tb) := by
  intro pins s σ H Q I h
  exact Subscript_ (binT ha hb I h fun v u s2 x y H2 I2 rx ry q => hr a b pins s2 σ H2 x y v u Q I2 rx ry q (hs _ _))
def rIxL (K : PySem.W.Frag) : R2 := fun x y H Q => ∃ p xs i v, x = .ref p ∧ y = .int i ∧ SqL K H p xs ∧ atI xs i = some v ∧ Q v H
def rIxT (K : PySem.W.Frag) : R2 := fun x y H Q => ∃ p xs i v, x = .ref p ∧ y = .int i ∧ SqT K H p xs ∧ atI xs i = some v ∧ Q v H
theorem ix_list : IxR X (rIxL X.K) := by
  intro value slice pins s σ H x y v u Q I rx ry h hs
  obtain ⟨p, xs, i, z, rfl, rfl, hq, he, q⟩ := h
  cases rx
  obtain ⟨t, rfl⟩ := ry
  obtain ⟨its, r, pl, hz⟩ := I.list hq
  obtain ⟨j, h1, h2, h3, h4, h5⟩ := atI_get he
  obtain ⟨w, ew, rw'⟩ := r.get h2
  have hl := r.length
  have hn := line63
  have fin : EP X pins σ Q w s := ⟨z, H, I, rw', q⟩
  by_cases h0 : 0 ≤ i
  · have hj : i.toNat = j := by
      rw [seqIndex_of h0 h5] at h1
      exact Option.some.inj h1
    exact item_listR pl.isList h0 (by omega) (by rw [hj]; simpa using ew) fin hs
  · have hj : (i + (its.toArray.size : Int)).toNat = j := by
      rw [seqIndex_neg (by omega) h4] at h1
      rw [List.size_toArray, ← hl]
      exact Option.some.inj h1
    exact subscriptTail_builtinR (x := w) pl.isList.typeIs slot_list_getitem.lookup
      (wpAny_getItem_list_neg (Q := fun r s' => r = w ∧ EP X pins σ Q r s') pl.isList (by omega) (by rw [List.size_toArray] <;> omega) (by omega) (by rw [hj]; simpa using ew) ⟨rfl, fin⟩) hs
theorem ix_tup : IxR X (rIxT X.K) := by
  intro value slice pins s σ H x y v u Q I rx ry h hs
  obtain ⟨p, xs, i, z, rfl, rfl, hq, he, q⟩ := h
  cases rx
  obtain ⟨t, rfl⟩ := ry
  obtain ⟨its, r, pl, hz⟩ := I.tuple hq
  obtain ⟨j, h1, h2, h3, h4, h5⟩ := atI_get he
  obtain ⟨w, ew, rw'⟩ := r.get h2
  have hl := r.length
  have hn := line63
  have fin : EP X pins σ Q w s := ⟨z, H, I, rw', q⟩
  exact subscriptTail_builtinR (x := w) pl.typeIs slot_tuple_getitem.lookup
    (getItem_tuple (j := j) (Q := fun r s' => r = w ∧ EP X pins σ Q r s') pl (by omega) (by omega) (by rw [List.size_toArray, ← hl]; exact h1) (by simpa using ew) ⟨rfl, fin⟩) hs
theorem mapSeq_set (its : List Value) (n j : Nat) (u : Value) : Obj.mapSeq (·.setIfInBounds j u) { cls := .type "list", data := .seq its.toArray n } = { cls := .type "list", data := .seq (its.set j u).toArray n } := by
  simp [Obj.mapSeq]
theorem Inv.lst {pins : List (Addr × Obj)} {σ : St} {H : Hp} {s : Shared} {p : Addr} {xs : List V} (I : Inv X pins σ H s) (h : H p = some (.lst xs)) :
    ∃ (its : List Value) (n : Nat), Vals xs its ∧ s.heap.get? p = some { cls := .type "list", data := .seq its.toArray n } ∧ xs.length ≤ sizeLine := by
  obtain ⟨z, its, n, r, e⟩ := I.hok p _ h
  exact ⟨its, n, r, e, z⟩
theorem Inv.lstUpd {pins : List (Addr × Obj)} {σ : St} {H : Hp} {s : Shared} {p : Addr} {xs ys : List V} {its its' : List Value} {n n' : Nat} {f : Obj → Obj} (I : Inv X pins σ H s) (h : H p = some (.lst xs))
    (ho : s.heap.get? p = some { cls := .type "list", data := .seq its.toArray n }) (hf : f { cls := .type "list", data := .seq its.toArray n } = { cls := .type "list", data := .seq its'.toArray n' }) (r : Vals ys its') (hz : ys.length ≤ sizeLine) (t : Nat) :
    Inv X pins σ (upd H p (.lst ys)) { s with heap := s.heap.update p f, toks := t } := by
  have e : (s.heap.update p f).get? p = some { cls := .type "list", data := .seq its'.toArray n' } := by
    rw [Heap.get?_update_self f ho (by rw [hf] <;> rfl), hf]
  refine I.write (x := p) (e := p) (by rw [h]; trivial) (.inl rfl) (fun b u hb q => (Heap.get?_update_other _ _ (Ne.symm hb)).trans q) ⟨_, e⟩ ?_
  exact ⟨hz, its', n', r, e⟩
def rSetL : V → V → V → Hp → (Hp → Prop) → Prop := fun o i v H Q => ∃ p xs k j, o = .ref p ∧ i = .int k ∧ H p = some (.lst xs) ∧ ixN xs.length k = some j ∧ Q (upd H p (.lst (xs.set j v)))
theorem set_list : PSet X rSetL := by
  intro pins s σ H o i v ov iv u Q I ro ri rv h
  obtain ⟨p, xs, k, j, rfl, rfl, hp, hj, q⟩ := h
  cases ro
  obtain ⟨t, rfl⟩ := ri
  obtain ⟨its, n, r, ho, hz⟩ := I.lst hp
  obtain ⟨h1, h2, h3, h4⟩ := ixN_seq hj
  have hl := r.length
  have hn := line63
  have I' : Inv X pins σ (upd H p (.lst (xs.set j v))) { s with heap := s.heap.update p (Obj.mapSeq (·.setIfInBounds j u)) } :=
    I.lstUpd hp ho (mapSeq_set its n j u) (r.set rv j) (by rw [List.length_set]; exact hz) s.toks
  by_cases h0 : 0 ≤ k
  · have hk : k.toNat = j := by
      rw [seqIndex_of h0 h4] at h1
      exact Option.some.inj h1
    exact PySem.W.ki_setAt ho h0 (by omega) (by rw [List.size_toArray, ← hl]; exact h4) (by rw [hk]; exact ⟨_, I', q⟩)
  · have hk : (k + (its.toArray.size : Int)).toNat = j := by
      rw [seqIndex_neg (by omega) h3] at h1
      rw [List.size_toArray, ← hl]
      exact Option.some.inj h1
    exact PySem.W.ki_setBack ho (by omega) (by rw [List.size_toArray, ← hl]; exact h3) (by omega) (by rw [hk]; exact ⟨_, I', q⟩)
theorem slice_bounds (lo hi : Option Int) (n : Nat) : (sliceBounds lo hi none n).1 = ((HT.sIx n 0 lo : Nat) : Int) ∧ (sliceBounds lo hi none n).2.1 = ((HT.sIx n n hi : Nat) : Int) ∧ (sliceBounds lo hi none n).2.2 = 1 := by
  refine ⟨?_, ?_, rfl⟩
  · cases lo with
    | none => simp [sliceBounds, HT.sIx]
    | some i =>
      simp only [sliceBounds, HT.sIx, Option.getD_none, show (1 : Int) > 0 by decide, if_true]
      by_cases h : i < 0
      · simp only [h, if_true] <;> omega
      · simp only [h, if_false] <;> omega
  · cases hi with
    | none => simp [sliceBounds, HT.sIx]
    | some i =>
      simp only [sliceBounds, HT.sIx, Option.getD_none, show (1 : Int) > 0 by decide, if_true]
      by_cases h : i < 0
      · simp only [h, if_true] <;> omega
      · simp only [h, if_false] <;> omega
theorem slicePick_cut (its : List Value) (lo hi : Option Int) : slicePick its.toArray lo hi none = ((its.drop (HT.sIx its.length 0 lo)).take (HT.sIx its.length its.length hi - HT.sIx its.length 0 lo)).toArray := by
  obtain ⟨h1, h2, h3⟩ := slice_bounds lo hi its.toArray.size
  unfold slicePick
  rw [h1, h2, h3]
  simp only [sliceRange_one, pick_run, List.size_toArray] <;> rfl
def rSlL (K : PySem.W.Frag) : V → Option Int → Option Int → Hp → VK → Prop := fun x lo hi H Q => ∃ a xs, x = .ref a ∧ SqL K H a xs ∧ ∀ p, H p = none → Q (.ref p) (upd H p (.lst (cutV xs lo hi)))
theorem sl_list : SlR X (rSlL X.K) := by
  intro pins s σ H x v vl vu lo hi sl Q I rx hs pl pu h
  obtain ⟨a, xs, rfl, hx, q⟩ := h
  cases rx
  obtain ⟨its, r, ht, hz⟩ := I.list hx
  have hlen := r.length
  refine ⟨"list", _, slot_list_getitem.lookup, ht.isList.typeIs, ?_⟩
  refine wpAny_getItem_list_slice ht.isList hs pl pu .none (by simp) ?_ (by rw [List.size_toArray] <;> omega)
  rw [slicePick_cut, ← hlen]
  refine ⟨.ref s.heap.objs.size, _, I.laid (t' := s.toks) (o := .lst (cutV xs lo hi)) (fun b ob q => Heap.get?_push_of_some _ q) (Nat.le_refl _) ?_, rfl, q _ (I.hok.fresh (Nat.le_refl _))⟩
  exact ⟨Nat.le_trans (cutV_length xs lo hi) hz, _, 0, (r.drop (HT.sIx xs.length 0 lo)).take (HT.sIx xs.length xs.length hi - HT.sIx xs.length 0 lo), Heap.get?_push_size _ rfl⟩
def flatV : V → Bool
  | .non => true
  | .bl _ => true
  | .int _ => true
  | .str _ => true
  | _ => false
def eqV : V → V → Bool
  | .non, .non => true
  | .bl a, .bl b => a == b
  | .bl a, .int b => (if a then 1 else 0) == b
  | .int a, .bl b => a == (if b then 1 else 0)
  | .int a, .int b => a == b
  | .str a, .str b => a == b
  | _, _ => false
theorem eqAt_V {A : Around} {s : Shared} {y x : V} {u v : Value} (ry : RelV y u) (rx : RelV x v) (fy : flatV y = true) (fx : flatV x = true) : SeqAt.EqAt A s u v (eqV y x) := by
  cases y with
  | non =>
    cases ry
    cases x with
    | non => cases rx; exact SeqAt.EqAt.same _
    | bl b => cases rx; exact SeqAt.EqAt.none_bool b
    | int b => obtain ⟨t, rfl⟩ := rx; exact SeqAt.EqAt.none_int b t
    | str b => obtain ⟨t, rfl⟩ := rx; exact SeqAt.EqAt.none_str b t
    | _ => exact absurd (show false = true from fx) Bool.false_ne_true
  | bl a =>
    cases ry
    cases x with
    | non => cases rx; exact SeqAt.EqAt.bool_none a
    | bl b => cases rx; exact SeqAt.EqAt.bool_bool a b
    | int b => obtain ⟨t, rfl⟩ := rx; exact SeqAt.EqAt.bool_int a b t
    | str b => obtain ⟨t, rfl⟩ := rx; exact SeqAt.EqAt.bool_str a b t
    | _ => exact absurd (show false = true from fx) Bool.false_ne_true
  | int a =>
    obtain ⟨t', rfl⟩ := ry
    cases x with
    | non => cases rx; exact SeqAt.EqAt.int_none a t'
    | bl b => cases rx; exact SeqAt.EqAt.int_bool a t' b
    | int b => obtain ⟨t, rfl⟩ := rx; exact SeqAt.EqAt.int_int a t' b t
    | str b => obtain ⟨t, rfl⟩ := rx; exact SeqAt.EqAt.int_str a t' b t
    | _ => exact absurd (show false = true from fx) Bool.false_ne_true
  | str a =>
    obtain ⟨t', rfl⟩ := ry
    cases x with
    | non => cases rx; exact SeqAt.EqAt.str_none a t'
    | bl b => cases rx; exact SeqAt.EqAt.str_bool a t' b
    | int b => obtain ⟨t, rfl⟩ := rx; exact SeqAt.EqAt.str_int a t' b t
    | str b => obtain ⟨t, rfl⟩ := rx; exact SeqAt.EqAt.str_str a t' b t
    | _ => exact absurd (show false = true from fx) Bool.false_ne_true
  | _ => exact absurd (show false = true from fy) Bool.false_ne_true
def eqU (x : V) (u : Value) : Bool := match u with
  | .none => eqV .non x
  | .bool b => eqV (.bl b) x
  | .int i _ => eqV (.int i) x
  | .str z _ => eqV (.str z) x
  | _ => false
theorem eqU_of {x y : V} {u : Value} (r : RelV y u) (f : flatV y = true) : eqU x u = eqV y x := by
  cases y with
  | non => cases r; rfl
  | bl b => cases r; rfl
  | int i => obtain ⟨t, rfl⟩ := r; rfl
  | str z => obtain ⟨t, rfl⟩ := r; rfl
  | _ => exact absurd (show false = true from f) Bool.false_ne_true
theorem any_eqU {x : V} : ∀ {xs : List V} {us : List Value}, Vals xs us → xs.all flatV = true → us.any (eqU x) = xs.any fun y => eqV y x
  | _, _, .nil, _ => rfl
  | y :: xs, u :: us, .cons r t, f => by
    rw [List.all_cons, Bool.and_eq_true] at f
    rw [List.any_cons, List.any_cons, eqU_of r f.1, any_eqU t f.2]
theorem mem_eqAt {A : Around} {s : Shared} {x : V} {v : Value} (rx : RelV x v) (fx : flatV x = true) : ∀ {xs : List V} {us : List Value}, Vals xs us → xs.all flatV = true → ∀ u ∈ us, SeqAt.EqAt A s u v (eqU x u)
  | _, _, .nil, _ => fun u hu => by cases hu
  | y :: xs, u :: us, .cons r t, f => fun u' hu => by
    rw [List.all_cons, Bool.and_eq_true] at f
    rcases List.mem_cons.mp hu with rfl | hu
    · rw [eqU_of r f.1]; exact eqAt_V r rx f.1 fx
    · exact mem_eqAt rx fx t f.2 u' hu
def inV (x : V) (xs : List V) : Bool := xs.any fun y => eqV y x
def rIn (K : PySem.W.Frag) (neg : Bool) : R2 := fun x y H Q => ∃ p xs, y = .ref p ∧ (SqL K H p xs ∨ SqT K H p xs) ∧ flatV x = true ∧ xs.all flatV = true ∧ Q (.bl (if neg then !inV x xs else inV x xs)) H
theorem op_in_seq : OpR X (compareOp .In) (rIn X.K false) := by
  intro pins s σ H x y v u Q I rx ry h
  obtain ⟨p, xs, rfl, hq, fx, fs, q⟩ := h
  cases ry
  rcases hq with hq | hq
  · obtain ⟨its, r, pl, hz⟩ := I.list hq
    refine SeqAt.in_listAt (eqU x) pl.isList (fun w hw => mem_eqAt rx fx r fs w (by simpa using hw)) ⟨.bl _, H, I, rfl, ?_⟩
    rw [show its.toArray.any (eqU x) = its.any (eqU x) by simp, any_eqU r fs]
    exact q
  · obtain ⟨its, r, pl, hz⟩ := I.tuple hq
    refine SeqAt.in_tupleAt (eqU x) pl (fun w hw => mem_eqAt rx fx r fs w (by simpa using hw)) ⟨.bl _, H, I, rfl, ?_⟩
    rw [show its.toArray.any (eqU x) = its.any (eqU x) by simp, any_eqU r fs]
    exact q
theorem call_len_seq : CallR X (.builtin "len") (fun xs H Q => ∃ p ys, xs = [.ref p] ∧ (SqL X.K H p ys ∨ SqT X.K H p ys) ∧ Q (.int ys.length) H) := by
  intro pins s σ H xs us Q I r h
  obtain ⟨p, ys, rfl, hq, q⟩ := h
  obtain ⟨u, rfl, rx⟩ := vals1 r
  cases rx
  have hn := line63
  rcases hq with hq | hq
  · obtain ⟨its, r', pl, hz⟩ := I.list hq
    have hlen := r'.length
    exact Calls.call_len_list pl.isList (by simp only [List.size_toArray] <;> omega) ⟨.int ys.length, H, I.tok _, ⟨s.toks + 1, by rw [List.size_toArray, hlen]⟩, q⟩
  · obtain ⟨its, r', pl, hz⟩ := I.tuple hq
    have hlen := r'.length
    exact len_tuple pl (by simp only [List.size_toArray] <;> omega) ⟨.int ys.length, H, I.tok _, ⟨s.toks + 1, by rw [List.size_toArray, hlen]⟩, q⟩
theorem call_list_of : CallR X (.type "list") (fun xs H Q => ∃ p ys, xs = [.ref p] ∧ (SqL X.K H p ys ∨ SqT X.K H p ys) ∧ ∀ l, H l = none → Q (.ref l) (upd H l (.lst ys))) := by
  intro pins s σ H xs us Q I r h
  obtain ⟨p, ys, rfl, hq, q⟩ := h
  obtain ⟨u, rfl, rx⟩ := vals1 r
  cases rx
  have fin : ∀ (its : List Value), Vals ys its → ys.length ≤ sizeLine → ∀ (h' : Heap) (c' : Nat), (∀ b o', s.heap.get? b = some o' → h'.get? b = some o') →
      h'.get? s.heap.objs.size = some { cls := .type "list", dict := none, data := .seq its.toArray c', slots := #[] } → EP X pins σ Q (.ref s.heap.objs.size) { s with heap := h' } := fun its r' hz h' c' kp e =>
    ⟨.ref s.heap.objs.size, _, I.laid (t' := s.toks) kp (Nat.le_refl _) (show ObjOk X.prog X.w _ h' _ (.lst ys) from ⟨hz, its, c', r', e⟩), rfl, q _ (I.hok.fresh (Nat.le_refl _))⟩
  rcases hq with hq | hq
  · obtain ⟨its, r', pl, hz⟩ := I.list hq
    have hlen := r'.length
    obtain ⟨o, ho, hc, n, hd⟩ := pl.isList
    exact call_list_seq p (.inl rfl) ho hc hd (fun h' c' kp e => fin its r' hz h' c' kp e) (by simp only [List.size_toArray] <;> omega)
  · obtain ⟨its, r', pl, hz⟩ := I.tuple hq
    have hlen := r'.length
    obtain ⟨o, ho, hc, n, hd⟩ := pl
    exact call_list_seq p (.inr rfl) ho hc hd (fun h' c' kp e => fin its r' hz h' c' kp e) (by simp only [List.size_toArray] <;> omega)
theorem call_tuple_of : CallR X (.type "tuple") (fun xs H Q => ∃ p ys, xs = [.ref p] ∧ ((SqL X.K H p ys ∧ ∀ l, H l = none → Q (.ref l) (upd H l (.tup ys))) ∨ (SqT X.K H p ys ∧ Q (.ref p) H))) := by
  intro pins s σ H xs us Q I r h
  obtain ⟨p, ys, rfl, h⟩ := h
  obtain ⟨u, rfl, rx⟩ := vals1 r
  cases rx
  rcases h with ⟨hq, q⟩ | ⟨hq, q⟩
  · obtain ⟨its, r', pl, hz⟩ := I.list hq
    have hlen := r'.length
    refine call_tuple_list pl.isList (fun h' kp => ?_) (by simp only [List.size_toArray] <;> omega)
    have I1 : Inv X pins σ H { s with heap := h' } := I.kept (t' := s.toks) kp
    have I2 : Inv X pins σ (upd H h'.objs.size (.tup ys)) { s with heap := h'.push { cls := .type "tuple", data := .seq its.toArray } } :=
      I1.laid (t' := s.toks) (fun b o e => Heap.get?_push_of_some _ e) (Nat.le_refl _) (show ObjOk X.prog X.w _ _ _ (.tup ys) from ⟨hz, its, r', IsTup.new _ _⟩)
    exact ⟨.ref h'.objs.size, _, I2, rfl, q _ (I1.hok.fresh (Nat.le_refl _))⟩
  · obtain ⟨its, r', pl, hz⟩ := I.tuple hq
    exact call_tuple_same pl ⟨.ref p, H, I, rfl, q⟩
def tyV (K : PySem.W.Frag) (T : String) (x : V) (H : Hp) : Prop := match x with
  | .str _ => T = "str"
  | .int _ => T = "int"
  | .ref p => (T = "list" ∧ ∃ xs, SqL K H p xs) ∨ (T = "tuple" ∧ ∃ o, K.lookup p = some o ∧ o.cls = .type "tuple" ∧ o.dict = none) ∨
      (T = "dict" ∧ ((∃ kvs, H p = some (.dK kvs)) ∨ ∃ kvs, H p = some (.dT kvs))) ∨ (T = "set" ∧ ∃ S n, H p = some (.set S n))
  | _ => False
theorem tyV_is {pins : List (Addr × Obj)} {σ : St} {H : Hp} {s : Shared} {T : String} {x : V} {v : Value} (I : Inv X pins σ H s) (r : RelV x v) (ty : tyV X.K T x H) :
    s.TypeIs v T ∧ ∀ a, v = .ref a → ∃ ob, s.heap.get? a = some ob ∧ ob.dict = none := by
  cases x with
  | str z =>
    obtain ⟨t, rfl⟩ := r
    cases (show T = "str" from ty)
    exact ⟨typeIs_str s z t, fun _ e => nomatch e⟩
  | int i =>
    obtain ⟨t, rfl⟩ := r
    cases (show T = "int" from ty)
    exact ⟨typeIs_int s i t, fun _ e => nomatch e⟩
  | ref p =>
    cases r
    rcases ty with ⟨rfl, xs, hq⟩ | ⟨rfl, o, hk, hc, hd⟩ | ⟨rfl, hk⟩ | ⟨rfl, S, n, hk⟩
    · obtain ⟨its, _, pl, _⟩ := I.list hq
      refine ⟨pl.isList.typeIs, fun a e => ?_⟩
      cases e
      obtain ⟨o, n, e, c, hd, _⟩ := pl
      exact ⟨o, e, hd⟩
    · refine ⟨⟨o, I.kIn p o hk, hc⟩, fun a e => ?_⟩
      cases e
      exact ⟨o, I.kIn _ o hk, hd⟩
    · have z : ∃ o, s.heap.get? p = some o ∧ o.ExactDict := by
        rcases hk with ⟨kvs, hk⟩ | ⟨kvs, hk⟩
        · obtain ⟨_, _, _, _, o, _, _, e, ex, _⟩ := I.hok p _ hk
          exact ⟨o, e, ex⟩
        · obtain ⟨_, _, _, _, o, _, _, e, ex, _⟩ := I.hok p _ hk
          exact ⟨o, e, ex⟩
      obtain ⟨o, e, ex⟩ := z
      refine ⟨⟨o, e, ex.1⟩, fun a e2 => ?_⟩
      cases e2
      exact ⟨o, e, ex.2.1⟩
    · obtain ⟨o, _, _, _, e, ex, _⟩ := I.hok p _ hk
      refine ⟨⟨o, e, ex.1⟩, fun a e2 => ?_⟩
      cases e2
      exact ⟨o, e, ex.2.1⟩
  | _ => exact False.elim ty
def tBM0 (K : PySem.W.Frag) (T : String) (r : V → List V → Hp → VK → Prop) (to : TE) : TE := fun σ H Q => to σ H fun x H1 => tyV K T x H1 ∧ r x [] H1 Q
def tBM (K : PySem.W.Frag) (T : String) (r : V → List V → Hp → VK → Prop) (to : TE) (t : TA) : TE := fun σ H Q => to σ H fun x H1 => tyV K T x H1 ∧ t σ H1 fun xs H2 => r x xs H2 Q
variable {o e : Expr} {es : List Expr} {to : TE} {t : TA} {name : Str} {apos cpos : Pos} {T id : String} {r : V → List V → Hp → VK → Prop}
theorem pe_bm0 (pa : PlainAttrs T) (slot : Slot T name id) (hty : typeOf (.builtin id) = pure (.type "method_descriptor")) (hm : MtR X id r) (ho : PE X o to)
    (hbase : attributeBase o name X.env (eval o X.env) = eval o X.env := by rfl) (hline : (apos.endLine == cpos.line) = true := by rfl) : PE X (.Call (.Attribute o name apos) [] [] cpos) (tBM0 X.K T r to) := by
  intro pins s σ H Q I h
  refine wpAny_Call_method0_late hbase hline (thnE (ho pins s σ H _ I h) fun v s1 x H1 I1 r1 ⟨ty, q1⟩ => ?_)
  obtain ⟨h1, h2⟩ := tyV_is I1 r1 ty
  exact ⟨T, id, pa, slot, hty, h1, h2, Calls.callWith_builtin rfl (PySem.evalArgs_none (hm pins s1 σ H1 x [] v [] Q I1 r1 .nil q1))⟩
theorem pe_bm (pa : PlainAttrs T) (slot : Slot T name id) (hty : typeOf (.builtin id) = pure (.type "method_descriptor")) (hm : MtR X id r) (ho : PE X o to) (ha : PA X (e :: es) t)
    (hbase : attributeBase o name X.env (eval o X.env) = eval o X.env := by rfl)
    (hfew : ((backTo cpos (starEach (e :: es) X.env)).all (fun x => !x.1) && (backToKw cpos (keywordEach [] X.env)).all (fun x => x.1.isSome)
      && decide ((e :: es).length + ([] : List Keyword).length + (if ([] : List Keyword).isEmpty then 0 else 1) < 30)) = true := by rfl)
    (hline : (apos.endLine == cpos.line) = true := by rfl) (hs : starEach (e :: es) X.env = (false, eval e X.env) :: starEach es X.env := by rfl) (hplain : (backTo cpos (starEach es X.env)).any (·.1) = false := by rfl) :
    PE X (.Call (.Attribute o name apos) (e :: es) [] cpos) (tBM X.K T r to t) := by
  intro pins s σ H Q I h
  refine wpAny_Call_method_late hbase hfew hline rfl (thnE (ho pins s σ H _ I h) fun v s1 x H1 I1 r1 ⟨ty, q1⟩ => ?_)
  obtain ⟨h1, h2⟩ := tyV_is I1 r1 ty
  refine ⟨T, id, pa, slot, hty, h1, h2, ?_⟩
  have hA := ha cpos pins s1 σ H1 _ I1 q1
  rw [hs] at hA ⊢
  refine Calls.callWith_builtin (by show (false || (backTo cpos (starEach es X.env)).any (·.1)) = false; rw [hplain] <;> rfl) (Calls.evalArgs_plain ?_)
  exact thn hA fun us s2 ⟨vs, H2, I2, r2, q2⟩ => hm pins s2 σ H2 x vs v us Q I2 r1 r2 q2
end
end L2
namespace L2
open PySem PySem.Spec PyProof.Rows
def MtM (X : Cx) (id : String) (r : V → List V → Hp → VK → Prop) : Prop :=
  ∀ (pins : List (Addr × Obj)) (s : Shared) (σ : St) (H : Hp) (x : V) (xs : List V) (v : Value) (us : List Value) (Q : VK), Inv X pins σ H s → RelV x v → Vals xs us → r x xs H Q →
    wpAny (model X.prog X.w) X.A (call (.builtin id) (v :: us)) (EP X pins σ Q) X.xe s
theorem Vals.one {x : V} {us : List Value} (h : Vals [x] us) : ∃ u, us = [u] ∧ RelV x u := by
  cases h with
  | cons r t => cases t; exact ⟨_, rfl, r⟩
theorem Vals.two {x y : V} {us : List Value} (h : Vals [x, y] us) : ∃ u v, us = [u, v] ∧ RelV x u ∧ RelV y v := by
  cases h with
  | cons r t =>
    obtain ⟨v, e, q⟩ := Vals.one t
    subst e
    exact ⟨_, v, rfl, r, q⟩
theorem Vals.zero : ∀ {us : List Value}, Vals [] us → us = []
  | _, .nil => rfl
theorem Vals.dropLast {xs : List V} {us : List Value} (h : Vals xs us) : Vals xs.dropLast us.dropLast := by
  induction h with
  | nil => exact .nil
  | cons r t ih =>
    cases t with
    | nil => exact .nil
    | cons q t' => exact .cons r ih
theorem Vals.rep {xs : List V} {us : List Value} (h : Vals xs us) : ∀ k : Nat, Vals (List.replicate k xs).flatten (List.replicate k us).flatten
  | 0 => .nil
  | k + 1 => by
    rw [List.replicate_succ, List.replicate_succ, List.flatten_cons, List.flatten_cons]
    exact Vals.append h (Vals.rep h k)
theorem erase_last {α : Type} (l : List α) : l.eraseIdx (l.length - 1) = l.dropLast := by
  induction l with
  | nil => rfl
  | cons a r ih =>
    cases r with
    | nil => rfl
    | cons b r =>
      have e : (a :: b :: r).length - 1 = ((b :: r).length - 1) + 1 := by
        have h1 : (a :: b :: r).length = r.length + 2 := rfl
        have h2 : (b :: r).length = r.length + 1 := rfl
        omega
      rw [e, List.eraseIdx_cons_succ, ih]
      all_goals rfl
theorem foldl_rep (its : List Value) : ∀ (k : Nat) (acc : List Value),
    List.foldl (fun x1 x2 => x1 ++ x2) acc.toArray (List.replicate k its.toArray) = (acc ++ (List.replicate k its).flatten).toArray
  | 0, acc => by simp
  | k + 1, acc => by
    have e : acc.toArray ++ its.toArray = (acc ++ its).toArray := by simp
    have e2 : (acc ++ its) ++ (List.replicate k its).flatten = acc ++ (List.replicate (k + 1) its).flatten := by
      rw [List.replicate_succ, List.flatten_cons, List.append_assoc]
    rw [← e2, ← foldl_rep its k (acc ++ its), ← e, List.replicate_succ, List.foldl_cons]
section
variable {X : Cx} {pins : List (Addr × Obj)} {σ : St} {H : Hp} {s : Shared} {l b : Addr} {xs ys zs : List V}
theorem Inv.lset {its its' : List Value} {n : Nat} {f : Array Value → Array Value} {t' : Nat} (I : Inv X pins σ H s) (hH : H l = some (.lst xs))
    (e : s.heap.get? l = some { cls := .type "list", data := .seq its.toArray n }) (hf : f its.toArray = its'.toArray) (hv : Vals ys its') (hz : ys.length ≤ sizeLine) :
    Inv X pins σ (upd H l (.lst ys)) { s with heap := s.heap.update l (Obj.mapSeq f), toks := t' } := by
  have q := PySem.IsL.update e f
  rw [hf] at q
  refine I.write (x := l) (e := l) (by rw [hH]; exact trivial) (.inl rfl) (fun b' u hb hu => (Heap.get?_update_other s.heap (Obj.mapSeq f) (Ne.symm hb)).trans hu) ⟨_, q⟩ ?_
  exact ⟨hz, its', _, hv, q⟩
theorem Inv.lnew {its : List Value} {t' : Nat} (I : Inv X pins σ H s) (hv : Vals ys its) (hz : ys.length ≤ sizeLine) :
    Inv X pins σ (upd H s.heap.objs.size (.lst ys)) { s with heap := s.heap.push { cls := .type "list", data := .seq its.toArray }, toks := t' } :=
  I.laid (fun _ _ q => Heap.get?_push_of_some _ q) (Nat.le_refl _) ⟨hz, its, 0, hv, Heap.get?_push_size _ rfl⟩
theorem Inv.fresh (I : Inv X pins σ H s) : H s.heap.objs.size = none := I.hok.fresh (Nat.le_refl _)
theorem Inv.lstM (I : Inv X pins σ H s) (hH : H l = some (.lst xs)) : xs.length ≤ sizeLine ∧ ∃ (its : List Value) (n : Nat), Vals xs its ∧ xs.length = its.length ∧ s.heap.get? l = some { cls := .type "list", data := .seq its.toArray n } := by
  obtain ⟨z, its, n, r, e⟩ := I.hok l _ hH
  exact ⟨z, its, n, r, r.length, e⟩
theorem notLongL {n : Nat} (h : n ≤ sizeLine) : Builtin.List.listTooLong n = false := by
  unfold Builtin.List.listTooLong
  exact decide_eq_false (by omega)
end
section
variable {X : Cx}
def rAppend : V → List V → Hp → VK → Prop := fun x vs H Q => ∃ l xs y, x = .ref l ∧ vs = [y] ∧ H l = some (.lst xs) ∧ xs.length < sizeLine ∧ Q .non (upd H l (.lst (xs ++ [y])))
theorem mt_append : MtM X "list.append" rAppend := by
  intro pins s σ H x vs v us Q I rx rv h
  obtain ⟨l, xs, y, rfl, rfl, hH, hz, q⟩ := h
  cases rx
  obtain ⟨u, rfl, ru⟩ := rv.one
  obtain ⟨z, its, n, r, hl, e⟩ := I.lstM hH
  refine call_meets F.slot_list_append ⟨_, e, rfl⟩ F.entry_list_append (F.args_list_append_2 _ _) (PySem.list_append l its.toArray n u (by rw [List.size_toArray]; omega)) ⟨e, ?_⟩
  refine ⟨.non, _, I.lset (its' := its ++ [u]) hH e (by simp) (r.append (.cons ru .nil)) ?_, rfl, q⟩
  rw [List.length_append, List.length_singleton]
  omega
def rExtend : V → List V → Hp → VK → Prop := fun x vs H Q => ∃ l b xs zs, x = .ref l ∧ vs = [.ref b] ∧ H l = some (.lst xs) ∧ H b = some (.lst zs) ∧ xs.length + zs.length ≤ sizeLine ∧ Q .non (upd H l (.lst (xs ++ zs)))
theorem mt_extend : MtM X "list.extend" rExtend := by
  intro pins s σ H x vs v us Q I rx rv h
  obtain ⟨l, b, xs, zs, rfl, rfl, hH, hB, hz, q⟩ := h
  cases rx
  obtain ⟨u, rfl, ru⟩ := rv.one
  cases ru
  obtain ⟨z, its, n, r, hl, e⟩ := I.lstM hH
  obtain ⟨z2, its2, n2, r2, hl2, e2⟩ := I.lstM hB
  have hsz : its.toArray.size + its2.toArray.size ≤ sizeLine := by rw [List.size_toArray, List.size_toArray]; omega
  have hlong : ¬ (!its.toArray.isEmpty && Builtin.List.listTooLong (its.toArray.size + its2.toArray.size)) = true := by
    rw [notLongL hsz, Bool.and_false]
    exact Bool.false_ne_true
  refine call_meets F.slot_list_extend ⟨_, e, rfl⟩ F.entry_list_extend (F.args_list_extend_2 _ _)
    (AutoSeq1.list_extend_list_list_0 l its.toArray n b its2.toArray n2 hlong (by rw [List.size_toArray]; omega) (by omega)) ⟨e, e2, ?_⟩
  refine ⟨.non, _, I.lset (its' := its ++ its2) hH e (by simp) (r.append r2) ?_, rfl, q⟩
  rw [List.length_append]
  omega
def rPop : V → List V → Hp → VK → Prop := fun x vs H Q => ∃ l xs y, x = .ref l ∧ vs = [] ∧ H l = some (.lst xs) ∧ xs[xs.length - 1]? = some y ∧ Q y (upd H l (.lst xs.dropLast))
theorem mt_pop : MtM X "list.pop" rPop := by
  intro pins s σ H x vs v us Q I rx rv h
  obtain ⟨l, xs, y, rfl, rfl, hH, hy, q⟩ := h
  cases rx
  have hus := rv.zero
  subst hus
  obtain ⟨z, its, n, r, hl, e⟩ := I.lstM hH
  obtain ⟨u, hu, ru⟩ := r.get hy
  have hy' : its.toArray[its.toArray.size - 1]? = some u := by
    show its.toArray[its.length - 1]? = some u
    rw [← Array.getElem?_toList, ← hl]
    exact hu
  refine call_meets F.slot_list_pop ⟨_, e, rfl⟩ F.entry_list_pop (F.args_list_pop_1 _) (MeetsSeq.list_pop_last l its.toArray n u hy' (by rw [List.size_toArray]; omega)) ⟨e, ?_⟩
  refine ⟨y, _, I.lset (its' := its.dropLast) hH e ?_ r.dropLast ?_, ru, q⟩
  · show its.toArray.eraseIdxIfInBounds (its.toArray.size - 1) = its.dropLast.toArray
    rw [List.size_toArray, List.eraseIdxIfInBounds_toArray, erase_last]
  · rw [List.length_dropLast]
    omega
def rCat : R2 := fun x y H Q => ∃ l b xs zs, x = .ref l ∧ y = .ref b ∧ H l = some (.lst xs) ∧ H b = some (.lst zs) ∧ xs.length + zs.length ≤ sizeLine ∧ ∀ p, H p = none → Q (.ref p) (upd H p (.lst (xs ++ zs)))
theorem op_cat : OpR X (binaryOp .Add) rCat := by
  intro pins s σ H x y v u Q I rx ry h
  obtain ⟨l, b, xs, zs, rfl, rfl, hH, hB, hz, q⟩ := h
  cases rx
  cases ry
  obtain ⟨z, its, n, r, hl, e⟩ := I.lstM hH
  obtain ⟨z2, its2, n2, r2, hl2, e2⟩ := I.lstM hB
  refine PySem.P.add_list e e2 ?_ (by rw [List.size_toArray, List.size_toArray]; omega)
  have ea : its.toArray ++ its2.toArray = (its ++ its2).toArray := by simp
  rw [ea]
  exact ⟨.ref _, _, I.lnew (t' := s.toks) (r.append r2) (by rw [List.length_append]; omega), rfl, q _ I.fresh⟩
def rRep : R2 := fun x y H Q => ∃ l k xs, x = .ref l ∧ y = .int k ∧ H l = some (.lst xs) ∧ -(2 ^ 63) ≤ k ∧ k < 2 ^ 63 ∧ xs.length * k.toNat ≤ sizeLine ∧
  ∀ p, H p = none → Q (.ref p) (upd H p (.lst (List.replicate k.toNat xs).flatten))
theorem len_rep {α : Type} (xs : List α) (k : Nat) : (List.replicate k xs).flatten.length = k * xs.length := by
  induction k with
  | zero => simp
  | succ k ih => rw [List.replicate_succ, List.flatten_cons, List.length_append, ih, Nat.succ_mul, Nat.add_comm]
theorem op_rep : OpR X (binaryOp .Mult) rRep := by
  intro pins s σ H x y v u Q I rx ry h
  obtain ⟨l, k, xs, rfl, rfl, hH, h1, h2, hz, q⟩ := h
  cases rx
  obtain ⟨t, rfl⟩ := ry
  obtain ⟨z, its, n, r, hl, e⟩ := I.lstM hH
  have hlen : its.toArray.size * k.toNat ≤ sizeLine := by rw [List.size_toArray, ← hl]; exact hz
  have hcap : ¬ its.toArray.size * k.toNat > (2 ^ 63 - 1) / 8 := by
    have : (sizeLine : Nat) ≤ (2 ^ 63 - 1) / 8 := by decide
    omega
  have hfit : ¬ (!Builtin.List.listFitsIndex k) = true := by
    rw [fitsIndex_both h1 h2]
    exact Bool.false_ne_true
  have hlong : ¬ Builtin.List.listTooLong (its.toArray.size * k.toNat) = true := by
    rw [notLongL hlen]
    exact Bool.false_ne_true
  have hnew : List.foldl (fun x1 x2 => x1 ++ x2) #[] (List.replicate (if its.toArray.isEmpty = true then 0 else k.toNat) its.toArray) = (List.replicate k.toNat its).flatten.toArray := by
    have f0 : ∀ m : Nat, List.foldl (fun x1 x2 => x1 ++ x2) #[] (List.replicate m its.toArray) = (List.replicate m its).flatten.toArray := fun m => by
      have := foldl_rep its m []
      rw [List.nil_append] at this
      exact this
    rw [f0]
    cases its with
    | nil => simp
    | cons a r' => rw [if_neg (by simp)]
  refine wpAny_binaryOp_repeat_ref (T := "list") (U := "int") (by decide) ⟨_, e, rfl⟩ (fun s' => typeIs_int s' k t) noFill_list_mul F.fills_int_mul F.slot_int_rmul repeat_list F.slot_int_index.lookup
    (call_meets F.slot_int_rmul (typeIs_int s k t) F.entry_int_rmul (F.args_int_rmul_2 _ _) (int___rmul___int_list k t l its.toArray n)
      ⟨e, rfl, ⟨_, e, rfl⟩, call_meets F.slot_list_mul ⟨_, e, rfl⟩ F.entry_list_mul (F.args_list_mul_2 _ _) (AutoListH.list___mul___list_int_3 l its.toArray n k t hfit hcap hlong) ⟨e, ?_⟩⟩)
  rw [hnew]
  exact ⟨.ref _, _, I.lnew (t' := s.toks) (r.rep k.toNat) (by rw [len_rep, Nat.mul_comm]; exact hz), rfl, q _ I.fresh⟩
end
section
variable {prog : Program} {w : World} {A : Around} {E : Value → Shared → Prop} {s : Shared}
set_option maxRecDepth 100000 in
end
section
variable {X : Cx}
end
end L2
namespace L2
open PySem PySem.Spec PyProof.Rows
section
variable {κ : Type} [DecidableEq κ]
def valV (kvs : List (κ × V)) (k : κ) : Option V := (kvs.find? fun kv => decide (kv.1 = k)).map (·.2)
def putK (kvs : List (κ × V)) (k : κ) (v : V) : List (κ × V) :=
  if (kvs.any fun kv => decide (kv.1 = k)) = true then kvs.map (fun kv => if kv.1 = k then (kv.1, v) else kv) else kvs ++ [(k, v)]
theorem valV_pos {p : κ × V} {r : List (κ × V)} {k : κ} (e : p.1 = k) : valV (p :: r) k = some p.2 := by simp [valV, List.find?_cons, e]
theorem valV_neg {p : κ × V} {r : List (κ × V)} {k : κ} (e : ¬ p.1 = k) : valV (p :: r) k = valV r k := by simp [valV, List.find?_cons, e]
theorem valV_any (k : κ) : ∀ kvs : List (κ × V), (kvs.any fun kv => decide (kv.1 = k)) = (valV kvs k).isSome
  | [] => rfl
  | p :: r => by
    rw [List.any_cons]
    by_cases e : p.1 = k
    · simp only [valV_pos e, decide_eq_true e, Bool.true_or, Option.isSome_some]
    · rw [valV_neg e, decide_eq_false e, Bool.false_or]; exact valV_any k r
theorem valV_map (k j : κ) (y : V) : ∀ kvs : List (κ × V), valV (kvs.map fun kv => if kv.1 = k then (kv.1, y) else kv) j = (valV kvs j).map fun x => if j = k then y else x
  | [] => rfl
  | p :: r => by
    have ih := valV_map k j y r
    rw [List.map_cons]
    by_cases h : p.1 = k
    · rw [if_pos h]
      by_cases e : p.1 = j
      · rw [valV_pos (p := (p.1, y)) e, valV_pos e, Option.map_some, if_pos (e.symm.trans h)]
      · rw [valV_neg (p := (p.1, y)) e, valV_neg e, ih]
    · rw [if_neg h]
      by_cases e : p.1 = j
      · rw [valV_pos (p := p) e, valV_pos e, Option.map_some, if_neg (fun z => h (e.trans z))]
      · rw [valV_neg (p := p) e, valV_neg e, ih]
theorem valV_snoc (k j : κ) (y : V) : ∀ kvs : List (κ × V), valV kvs k = none → valV (kvs ++ [(k, y)]) j = if j = k then some y else valV kvs j
  | [], _ => by
    by_cases e : k = j
    · rw [if_pos e.symm]; exact valV_pos (p := (k, y)) e
    · rw [if_neg (fun z => e z.symm)]; exact valV_neg (p := (k, y)) e
  | p :: r, hn => by
    rw [List.cons_append]
    have hk : ¬ p.1 = k := fun z => by rw [valV_pos z] at hn; cases hn
    rw [valV_neg hk] at hn
    have ih := valV_snoc k j y r hn
    by_cases e : p.1 = j
    · rw [valV_pos e, valV_pos e, if_neg (fun z => hk (e.trans z))]
    · rw [valV_neg e, valV_neg e, ih]
theorem valV_put (kvs : List (κ × V)) (k j : κ) (y : V) : valV (putK kvs k y) j = if j = k then some y else valV kvs j := by
  unfold putK
  by_cases a : (kvs.any fun kv => decide (kv.1 = k)) = true
  · rw [if_pos a, valV_map]
    rw [valV_any] at a
    by_cases e : j = k
    · obtain ⟨x, hx⟩ := Option.isSome_iff_exists.mp a
      rw [if_pos e, e, hx, Option.map_some, if_pos rfl]
    · rw [if_neg e]
      cases valV kvs j with
      | none => rfl
      | some x => rw [Option.map_some, if_neg e]
  · rw [if_neg a]
    refine valV_snoc k j y kvs ?_
    rw [valV_any] at a
    cases q : valV kvs k with
    | none => rfl
    | some x => rw [q] at a; exact (a rfl).elim
theorem length_putK (kvs : List (κ × V)) (k : κ) (v : V) : (putK kvs k v).length ≤ kvs.length + 1 := by
  unfold putK
  split
  · rw [List.length_map]; omega
  · rw [List.length_append, List.length_cons, List.length_nil]; omega
theorem putK_new {kvs : List (κ × V)} {k : κ} (v : V) (h : valV kvs k = none) : putK kvs k v = kvs ++ [(k, v)] := by
  unfold putK
  rw [valV_any, h]
  exact if_neg (by decide)
theorem RelO.isSome_eq {o : Option V} {u : Option Value} (r : RelO o u) : o.isSome = u.isSome := by
  cases o with
  | none => cases u with
    | none => rfl
    | some _ => exact (show False from r).elim
  | some _ => cases u with
    | none => exact (show False from r).elim
    | some _ => rfl
theorem KV.val {kvs : List (κ × V)} {vs : List (κ × Value)} (r : KV kvs vs) (k : κ) : RelO (valV kvs k) (valueAt vs k) := by
  unfold KV at r
  induction r with
  | nil => exact True.intro
  | @cons p q ps qs h t ih =>
    obtain ⟨h1, h2⟩ := h
    by_cases e : p.1 = k
    · have e' : q.1 = k := h1.symm.trans e
      have b : valueAt (q :: qs) k = some q.2 := by simp [valueAt, List.find?_cons, e']
      rw [valV_pos e, b]; exact h2
    · have e' : ¬ q.1 = k := fun z => e (h1.trans z)
      have b : valueAt (q :: qs) k = valueAt qs k := by simp [valueAt, List.find?_cons, e']
      rw [valV_neg e, b]; exact ih
theorem KV.any {kvs : List (κ × V)} {vs : List (κ × Value)} (r : KV kvs vs) (k : κ) : (kvs.any fun kv => decide (kv.1 = k)) = vs.any fun kv => decide (kv.1 = k) := by
  unfold KV at r
  induction r with
  | nil => rfl
  | cons h t ih => rw [List.any_cons, List.any_cons, ih, h.1]
theorem KV.repl {kvs : List (κ × V)} {vs : List (κ × Value)} (r : KV kvs vs) (k : κ) {y : V} {u : Value} (ry : RelV y u) :
    KV (kvs.map fun kv => if kv.1 = k then (kv.1, y) else kv) (vs.map fun kv => if kv.1 = k then (kv.1, u) else kv) := by
  unfold KV at r ⊢
  induction r with
  | nil => exact .nil
  | @cons p q ps qs h t ih =>
    rw [List.map_cons, List.map_cons]
    refine .cons ?_ ih
    obtain ⟨h1, h2⟩ := h
    by_cases e : p.1 = k
    · rw [if_pos e, if_pos (h1.symm.trans e)]; exact ⟨h1, ry⟩
    · rw [if_neg e, if_neg (fun z => e (h1.trans z))]; exact ⟨h1, h2⟩
theorem KV.put {kvs : List (κ × V)} {vs : List (κ × Value)} (r : KV kvs vs) (k : κ) {y : V} {u : Value} (ry : RelV y u) : KV (putK kvs k y) (stored vs k u) := by
  unfold putK stored
  rw [r.any k]
  by_cases e : (vs.any fun kv => decide (kv.1 = k)) = true
  · rw [if_pos e, if_pos e]; exact r.repl k ry
  · rw [if_neg e, if_neg e]; exact Paired.snoc r ⟨rfl, ry⟩
theorem KV.length {kvs : List (κ × V)} {vs : List (κ × Value)} (r : KV kvs vs) : kvs.length = vs.length := Paired.length r
end
theorem kV_is {P : Program} {w : World} {k : Key} {u : Value} (r : RelV (kV k) u) : (mixKind P w).is k u = true := by
  cases k with
  | inl i => obtain ⟨t, e⟩ := (show ∃ t, u = Value.int i t from r); subst e; exact mixKind_int P w i t
  | inr x => obtain ⟨t, e⟩ := (show ∃ t, u = Value.str x t from r); subst e; exact mixKind_str P w x t
theorem items_are {P : Program} {w : World} : ∀ {ks : List Key} {us : List Value}, Vals (ks.map kV) us → ItemsAre (mixKind P w) ks us
  | [], _, r => by rw [List.map_nil] at r; cases r; exact .nil
  | k :: ks, _, r => by
    rw [List.map_cons] at r
    cases r with
    | cons h t => exact .cons (kV_is h) (items_are t)
abbrev KT (H : Hp) : List (List Key × V) → List (List Key × Addr × Value) → Prop := Paired fun p q => p.1 = q.1 ∧ H q.2.1 = some (.tup (p.1.map kV)) ∧ RelV p.2 q.2.2
theorem KT.val {H : Hp} {kvs : List (List Key × V)} {xs : List (List Key × Addr × Value)} (r : KT H kvs xs) (k : List Key) : RelO (valV kvs k) ((atKey xs k).map (·.2)) := by
  induction r with
  | nil => exact True.intro
  | @cons p q ps qs h t ih =>
    obtain ⟨h1, _, h2⟩ := h
    by_cases e : p.1 = k
    · have e' : q.1 = k := h1.symm.trans e
      have b : atKey (q :: qs) k = some q.2 := by simp [atKey, List.find?_cons, e']
      rw [valV_pos e, b]; exact h2
    · have e' : ¬ q.1 = k := fun z => e (h1.trans z)
      have b : atKey (q :: qs) k = atKey qs k := by simp [atKey, List.find?_cons, e']
      rw [valV_neg e, b]; exact ih
theorem KT.repl {H : Hp} {kvs : List (List Key × V)} {xs : List (List Key × Addr × Value)} (r : KT H kvs xs) (k : List Key) {y : V} {u : Value} (ry : RelV y u) :
    KT H (kvs.map fun kv => if kv.1 = k then (kv.1, y) else kv) (xs.map (putAt k u)) := by
  induction r with
  | nil => exact .nil
  | @cons p q ps qs h t ih =>
    rw [List.map_cons, List.map_cons]
    refine .cons ?_ ih
    obtain ⟨h1, h2, h3⟩ := h
    unfold putAt
    by_cases e : p.1 = k
    · rw [if_pos e, if_pos (h1.symm.trans e)]; exact ⟨h1, h2, ry⟩
    · rw [if_neg e, if_neg (fun z => e (h1.trans z))]; exact ⟨h1, h2, h3⟩
theorem KT.put {H : Hp} {kvs : List (List Key × V)} {xs : List (List Key × Addr × Value)} (r : KT H kvs xs) (k : List Key) {b : Addr} {y : V} {u : Value} (hb : H b = some (.tup (k.map kV))) (ry : RelV y u) :
    KT H (putK kvs k y) (storedH xs k b u) := by
  have e : (kvs.any fun kv => decide (kv.1 = k)) = (atKey xs k).isSome := by
    rw [valV_any, (r.val k).isSome_eq, Option.isSome_map]
  unfold putK storedH
  rw [e]
  by_cases q : (atKey xs k).isSome = true
  · rw [if_pos q, if_pos q]; exact r.repl k ry
  · rw [if_neg q, if_neg q]; exact Paired.snoc r ⟨rfl, hb, ry⟩
theorem KT.keeps {H H' : Hp} {kvs : List (List Key × V)} {xs : List (List Key × Addr × Value)} (r : KT H kvs xs) (ht : ∀ b ys, H b = some (.tup ys) → H' b = some (.tup ys)) : KT H' kvs xs :=
  Paired.mapP r fun _ _ z => ⟨z.1, ht _ _ z.2.1, z.2.2⟩
section
variable {P : Program} {w : World} {H : Hp} {h : Heap} {a : Addr}
theorem rd_of {u : HO} (ok : HOk P w H h) (e : Rd H a u) : ObjOk P w H h a u := e.ok ok
theorem dk_rd {kvs : List (Key × V)} (ok : HOk P w H h) (e : Rd H a (.dK kvs)) : kvs.length ≤ sizeLine ∧ (a == sysModules) = false ∧ ∃ vs, KV kvs vs ∧ h.DictOf (mixKind P w) a vs :=
  show ObjOk P w H h a (.dK kvs) from rd_of ok e
theorem dk_of {kvs : List (Key × V)} (ok : HOk P w H h) (e : H a = some (.dK kvs)) : kvs.length ≤ sizeLine ∧ (a == sysModules) = false ∧ ∃ vs, KV kvs vs ∧ h.DictOf (mixKind P w) a vs := dk_rd ok (.inl e)
theorem key_of {ks : List Key} (ok : HOk P w H h) (e : H a = some (.tup (ks.map kV))) : (tupleKind (mixKind P w)).is h ks a := by
  obtain ⟨_, its, r, o, h1, h2, n, h3⟩ := (show ObjOk P w H h a (.tup (ks.map kV)) from ok a _ e)
  exact ⟨o, its.toArray, n, h1, h2, h3, by simpa using items_are r⟩
theorem dt_rd {kvs : List (List Key × V)} (ok : HOk P w H h) (e : Rd H a (.dT kvs)) : kvs.length ≤ sizeLine ∧ (a == sysModules) = false ∧
    ∃ xs, KT H kvs xs ∧ h.DictOfH (tupleKind (mixKind P w)) a xs := by
  obtain ⟨z, y, xs, r, o, es, ep, h1, h2, h3, h4, h5⟩ := (show ObjOk P w H h a (.dT kvs) from rd_of ok e)
  refine ⟨z, y, xs, r, o, es, ep, h1, h2, h3, h4, fun x hx => ?_, h5⟩
  have all : ∀ {l : List (List Key × V)} {m : List (List Key × Addr × Value)}, KT H l m → ∀ x ∈ m, (tupleKind (mixKind P w)).is h x.1 x.2.1 := by
    intro l m q
    induction q with
    | nil => intro x hx; exact nomatch hx
    | @cons p q ps qs hq t ih =>
      intro x hx
      rcases List.mem_cons.mp hx with e | hx
      · subst e
        exact key_of ok (by rw [← hq.1]; exact hq.2.1)
      · exact ih x hx
  exact all r x hx
theorem dt_of {kvs : List (List Key × V)} (ok : HOk P w H h) (e : H a = some (.dT kvs)) : kvs.length ≤ sizeLine ∧ (a == sysModules) = false ∧
    ∃ xs, KT H kvs xs ∧ h.DictOfH (tupleKind (mixKind P w)) a xs := dt_rd ok (.inl e)
end
def DGet (H : Hp) (a : Addr) (y : V) (r : Option V) : Prop :=
  (∃ kvs k, Rd H a (.dK kvs) ∧ y = kV k ∧ r = valV kvs k) ∨ ∃ kvs k b, Rd H a (.dT kvs) ∧ y = .ref b ∧ H b = some (.tup (k.map kV)) ∧ r = valV kvs k
def DPut (H : Hp) (a : Addr) (y v : V) (H' : Hp) : Prop :=
  (∃ kvs k, H a = some (.dK kvs) ∧ y = kV k ∧ kvs.length < sizeLine ∧ H' = upd H a (.dK (putK kvs k v))) ∨
  ∃ kvs k b, H a = some (.dT kvs) ∧ y = .ref b ∧ H b = some (.tup (k.map kV)) ∧ kvs.length < sizeLine ∧ H' = upd H a (.dT (putK kvs k v))
theorem DGet.k {H : Hp} {a : Addr} {kvs : List (Key × V)} {k : Key} (e : H a = some (.dK kvs)) : DGet H a (kV k) (valV kvs k) := .inl ⟨kvs, k, .inl e, rfl, rfl⟩
theorem DGet.t {H : Hp} {a b : Addr} {kvs : List (List Key × V)} {k : List Key} (e : H a = some (.dT kvs)) (eb : H b = some (.tup (k.map kV))) : DGet H a (.ref b) (valV kvs k) := .inr ⟨kvs, k, b, .inl e, rfl, eb, rfl⟩
theorem DPut.k {H : Hp} {a : Addr} {kvs : List (Key × V)} {k : Key} {v : V} (e : H a = some (.dK kvs)) (hl : kvs.length < sizeLine) : DPut H a (kV k) v (upd H a (.dK (putK kvs k v))) := .inl ⟨kvs, k, e, rfl, hl, rfl⟩
theorem DPut.t {H : Hp} {a b : Addr} {kvs : List (List Key × V)} {k : List Key} {v : V} (e : H a = some (.dT kvs)) (eb : H b = some (.tup (k.map kV))) (hl : kvs.length < sizeLine) :
    DPut H a (.ref b) v (upd H a (.dT (putK kvs k v))) := .inr ⟨kvs, k, b, e, rfl, eb, hl, rfl⟩
section
variable {X : Cx} {pins : List (Addr × Obj)} {σ : St} {H : Hp} {s : Shared} {a : Addr} {y v : V} {u r : Value} {o : Option V} {A : Around} {E : Value → Shared → Prop}
theorem Inv.big (I : Inv X pins σ H s) : sysModules < s.heap.objs.size := by
  have h : mainGlobals < s.heap.objs.size := (I.mod.glob.keeps I.bk).lt
  exact Nat.lt_trans (by decide) h
theorem d_getItem {Q : Value → Shared → Prop} (hu : A.units + 1 < cLine) (I : Inv X pins σ H s) (g : DGet H a y (some v)) (ry : RelV y u) (h : ∀ w' s', Inv X pins σ H s' → RelV v w' → Q w' s') :
    wpAny (model X.prog X.w) A (getItem (.ref a) u) Q E s := by
  rcases g with ⟨kvs, k, e, ey, l⟩ | ⟨kvs, k, b, e, ey, eb, l⟩
  · subst ey
    obtain ⟨z, hd, vs, rel, dd⟩ := dk_rd I.hok e
    obtain ⟨w', hw, rw'⟩ := RelO.some_of (v := v) (o := valueAt vs k) (by rw [l]; exact rel.val k)
    exact wpAny_getItem_of (kV_is ry) dd.mapOf hw (h w' _ (I.tok _) rw')
  · subst ey
    cases (show u = Value.ref b from ry)
    obtain ⟨z, hd, xs, rel, dd⟩ := dt_rd I.hok e
    obtain ⟨w', hw, rw'⟩ := RelO.some_of (v := v) (o := (atKey xs k).map (·.2)) (by rw [l]; exact rel.val k)
    obtain ⟨p, hp, hp2⟩ := Option.map_eq_some_iff.mp hw
    refine wpAny_getItem_heap (tupleKind_room_in1 hu) (key_of I.hok eb) dd hp ?_
    rw [hp2]
    exact h w' _ (I.tok _) rw'
theorem d_in {Q : Value → Shared → Prop} (hu : A.units + 1 < cLine) (I : Inv X pins σ H s) (g : DGet H a y o) (ry : RelV y u) (h : ∀ s', Inv X pins σ H s' → Q (.bool o.isSome) s') :
    wpAny (model X.prog X.w) A (compareOp .In u (.ref a)) Q E s := by
  rcases g with ⟨kvs, k, e, ey, l⟩ | ⟨kvs, k, b, e, ey, eb, l⟩
  · subst ey
    obtain ⟨z, hd, vs, rel, dd⟩ := dk_rd I.hok e
    refine wpAny_in_of (kV_is ry) hd dd.mapOf ?_
    rw [← (rel.val k).isSome_eq, ← l]
    exact h _ (I.tok _)
  · subst ey
    cases (show u = Value.ref b from ry)
    obtain ⟨z, hd, xs, rel, dd⟩ := dt_rd I.hok e
    refine wpAny_in_heap (tupleKind_room_in1 hu) (key_of I.hok eb) hd dd ?_
    have q := (rel.val k).isSome_eq
    rw [Option.isSome_map] at q
    rw [← q, ← l]
    exact h _ (I.tok _)
theorem d_notIn {Q : Value → Shared → Prop} (hu : A.units + 1 < cLine) (I : Inv X pins σ H s) (g : DGet H a y o) (ry : RelV y u) (h : ∀ s', Inv X pins σ H s' → Q (.bool (!o.isSome)) s') :
    wpAny (model X.prog X.w) A (compareOp .NotIn u (.ref a)) Q E s := by
  rcases g with ⟨kvs, k, e, ey, l⟩ | ⟨kvs, k, b, e, ey, eb, l⟩
  · subst ey
    obtain ⟨z, hd, vs, rel, dd⟩ := dk_rd I.hok e
    refine wpAny_notIn_of (kV_is ry) hd dd.mapOf ?_
    rw [← (rel.val k).isSome_eq, ← l]
    exact h _ (I.tok _)
  · subst ey
    cases (show u = Value.ref b from ry)
    obtain ⟨z, hd, xs, rel, dd⟩ := dt_rd I.hok e
    refine wpAny_notIn_heap (tupleKind_room_in1 hu) (key_of I.hok eb) hd dd ?_
    have q := (rel.val k).isSome_eq
    rw [Option.isSome_map] at q
    rw [← q, ← l]
    exact h _ (I.tok _)
theorem d_write {h' : Heap} {t' : Nat} {ob : HO} (I : Inv X pins σ H s) (mu : Mut (H a)) (hs : Heap.SameBut a s.heap h') (he : ∃ q, h'.get? a = some q) (new : ObjOk X.prog X.w (upd H a ob) h' a ob) :
    Inv X pins σ (upd H a ob) { s with heap := h', toks := t' } :=
  I.write (x := a) (e := a) mu (.inl rfl) (fun b q hb z => (hs.2 b hb).trans z) he new
theorem dk_new {P : Program} {w : World} {H' : Hp} {h' : Heap} {kvs : List (Key × V)} {vs : List (Key × Value)} (z : kvs.length ≤ sizeLine) (hd : (a == sysModules) = false) (rel : KV kvs vs) (dd : h'.DictOf (mixKind P w) a vs) :
    ObjOk P w H' h' a (.dK kvs) := ⟨z, hd, vs, rel, dd⟩
theorem d_setItem {H' : Hp} {Q : Unit → Shared → Prop} (hu : A.units + 1 < cLine) (I : Inv X pins σ H s) (g : DPut H a y v H') (ry : RelV y u) (rv : RelV v r) (h : ∀ s', Inv X pins σ H' s' → Q () s') :
    wpAny (model X.prog X.w) A (setItem (.ref a) u r) Q E s := by
  rcases g with ⟨kvs, k, e, ey, l, eH⟩ | ⟨kvs, k, b, e, ey, eb, l, eH⟩
  · subst ey eH
    obtain ⟨z, hd, vs, rel, dd⟩ := dk_of I.hok e
    have hz : vs.length ≤ sizeLine := by rw [← rel.length]; exact z
    have hl : (putK kvs k v).length ≤ sizeLine := by have := length_putK kvs k v; omega
    refine wpAny_setItem_pairs (hsz := hz) (kV_is ry) dd fun h' dd' hs => h _ ?_
    have he : ∃ q, h'.get? a = some q := let ⟨q, _, _, hq, _⟩ := dd'; ⟨q, hq⟩
    exact d_write I (by rw [e]; exact True.intro) hs he (dk_new hl hd (rel.put k rv) dd')
  · subst ey eH
    cases (show u = Value.ref b from ry)
    obtain ⟨z, hd, xs, rel, dd⟩ := dt_of I.hok e
    have hz : xs.length ≤ sizeLine := by rw [← Paired.length rel]; exact z
    have hl : (putK kvs k v).length ≤ sizeLine := by have := length_putK kvs k v; omega
    refine wpAny_setItem_heap (hsz := hz) (tupleKind_room_in1 hu) (key_of I.hok eb) dd fun h' dd' hs => h _ ?_
    obtain ⟨q, es, ep, hq, h2, h3, h4, _, h5⟩ := dd'
    refine d_write I (by rw [e]; exact True.intro) hs ⟨q, hq⟩ ⟨hl, hd, _, (rel.put k eb rv).keeps fun c ys ec => ?_, q, es, ep, hq, h2, h3, h4, h5⟩
    rw [upd_ne (ne_of ec e (fun z => nomatch z))]
    exact ec
end
section
variable {X : Cx} {pins : List (Addr × Obj)} {σ : St} {H : Hp} {s : Shared} {a : Addr} {kvs : List (Key × V)} {k : Key} {u : Value} {A : Around} {E : Value → Shared → Prop}
theorem d_len {Q : Value → Shared → Prop} (I : Inv X pins σ H s) (e : Rd H a (.dK kvs)) (h : ∀ t s', Inv X pins σ H s' → Q (.int kvs.length t) s') : wpAny (model X.prog X.w) A (call (.builtin "len") [.ref a]) Q E s := by
  obtain ⟨z, hd, vs, rel, dd⟩ := dk_rd I.hok e
  refine call_len_dict hd dd (by rw [← rel.length]; rw [sizeLine_eq] at z; omega) ?_
  rw [← rel.length]
  exact h _ _ (I.tok _)
end
def NoSl (i : Expr) : Prop := ∀ ov iv, subscripted i false ov iv = operate [ov, iv] (getItem ov iv)
theorem subD_of {prog : Program} {w : World} {A : Around} {E : Value → Shared → Prop} {s : Shared} {env : Env} {value slice : Expr} {pos : Pos} {T id : String} {Q : Value → Shared → Prop}
    (hl : typeLookup (.type T) "__getitem__" = pure (some (.builtin id))) (hs : NoSl slice)
    (h : wpAny (model prog w) A (eval value env) (fun o s₁ => wpAny (model prog w) A (eval slice env) (fun i s₂ => s₂.TypeIs o T ∧ wpAny (model prog w) A (getItem o i) Q E s₂) E s₁) E s) :
    wpAny (model prog w) A (eval (.Subscript value slice pos) env) Q E s := by
  refine Subscript_ (wpAny_mono h (fun o s₁ h₁ => wpAny_mono h₁ (fun i s₂ h₂ => ?_) fun _ _ x => x) fun _ _ x => x)
  obtain ⟨hT, h₂⟩ := h₂
  unfold subscriptTail
  refine wpAny_bind ?_
  rw [getitemInPython_of_ne hT.not_modules]
  refine wpAny_bind (wpAny_specialOf hT hl ?_)
  have fin : wpAny (model prog w) A (subscripted slice false o i) (fun r s₃ => wpAny (model prog w) A (letTemporaryGo value o r >>= fun _ => pure r) Q E s₃) E s₂ := by
    rw [hs o i]
    exact wpAny_operating (wpAny_mono h₂ (fun r s₃ h₃ => wpAny_bind (wpAny_letTemporaryGo (wpAny_pure h₃))) fun _ _ x => x)
  first
    | exact wpAny_pure (wpAny_bind fin)
    | exact wpAny_bind (wpAny_pure (wpAny_bind fin))
    | exact wpAny_bind fin
theorem dict_typeIs {X : Cx} {pins : List (Addr × Obj)} {σ : St} {H : Hp} {s : Shared} {a : Addr} {y : V} {o : Option V} (I : Inv X pins σ H s) (g : DGet H a y o) : s.TypeIs (.ref a) "dict" := by
  rcases g with ⟨kvs, k, e, _, _⟩ | ⟨kvs, k, b, e, _, _, _⟩
  · obtain ⟨_, _, vs, _, dd⟩ := dk_rd I.hok e
    exact dd.typeIs
  · obtain ⟨_, _, xs, _, dd⟩ := dt_rd I.hok e
    exact dd.typeIs
def tDGet (td ty : TE) : TE := fun σ H Q => td σ H fun x H1 => ty σ H1 fun y H2 => ∃ a v, x = .ref a ∧ DGet H2 a y (some v) ∧ Q v H2
def tDIn (ty td : TE) : TE := fun σ H Q => ty σ H fun y H1 => td σ H1 fun x H2 => ∃ a o, x = .ref a ∧ DGet H2 a y o ∧ Q (.bl o.isSome) H2
def tDNotIn (ty td : TE) : TE := fun σ H Q => ty σ H fun y H1 => td σ H1 fun x H2 => ∃ a o, x = .ref a ∧ DGet H2 a y o ∧ Q (.bl (!o.isSome)) H2
def sDPut (td ty tv : TE) : TS := fun D σ H => tv σ H fun v H1 => td σ H1 fun x H2 => ty σ H2 fun y H3 => ∃ a H4, x = .ref a ∧ DPut H3 a y v H4 ∧ D.nx σ H4
section
variable {X : Cx} {o i e value : Expr} {pos pos' tpos : Pos} {td ty tv : TE}
theorem pe_dget (hu : X.A.units + 1 < cLine) (ho : PE X o td) (hi : PE X i ty) (hs : NoSl i) : PE X (.Subscript o i pos) (tDGet td ty) := by
  intro pins s σ H Q I h
  refine subD_of PySem.F.slot_dict_getitem.lookup hs (thnE (ho pins s σ H _ I h) fun u s1 x H1 I1 rx q1 => thnE (hi pins s1 σ H1 _ I1 q1) fun iv s2 y H2 I2 ry ⟨a, v, ex, g, q2⟩ => ?_)
  subst ex
  obtain rfl : u = Value.ref a := rx
  exact ⟨dict_typeIs I2 g, d_getItem hu I2 g ry fun w' s3 I3 rw' => ⟨v, H2, I3, rw', q2⟩⟩
theorem pc_din (hu : X.A.units + 1 < cLine) (hi : PE X i ty) (ho : PE X o td) : PC X .In i o (tDIn ty td) := by
  intro pins s σ H Q I h
  refine thnE (hi pins s σ H _ I h) fun iv s1 y H1 I1 ry q1 => thnE (ho pins s1 σ H1 _ I1 q1) fun u s2 x H2 I2 rx ⟨a, ov, ex, g, q2⟩ => ?_
  subst ex
  obtain rfl : u = Value.ref a := rx
  exact d_in hu I2 g ry fun s3 I3 => ⟨.bl ov.isSome, H2, I3, rfl, q2⟩
theorem pc_dnotin (hu : X.A.units + 1 < cLine) (hi : PE X i ty) (ho : PE X o td) : PC X .NotIn i o (tDNotIn ty td) := by
  intro pins s σ H Q I h
  refine thnE (hi pins s σ H _ I h) fun iv s1 y H1 I1 ry q1 => thnE (ho pins s1 σ H1 _ I1 q1) fun u s2 x H2 I2 rx ⟨a, ov, ex, g, q2⟩ => ?_
  subst ex
  obtain rfl : u = Value.ref a := rx
  exact d_notIn hu I2 g ry fun s3 I3 => ⟨.bl (!ov.isSome), H2, I3, rfl, q2⟩
theorem ps_dput (hu : X.A.units + 1 < cLine) (ho : PE X o td) (hi : PE X i ty) (hv : PE X value tv) (hs : swapsWith value (some (.Subscript o i pos')) pos.line X.env = pure false) :
    PS X (.Assign [.Subscript o i pos'] value pos) (sDPut td ty tv) := by
  intro pins s σ H D I h
  refine wpAny_Assign_Subscript (thnE (hv pins s σ H _ I h) fun r s1 v H1 I1 rv q1 => thnE (ho pins s1 σ H1 _ I1 q1) fun u s2 x H2 I2 rx q2 => thnE (hi pins s2 σ H2 _ I2 q2) fun iv s3 y H3 I3 ry ⟨a, H4, ex, g, q3⟩ => ?_) hs
  subst ex
  obtain rfl : u = Value.ref a := rx
  exact d_setItem hu I3 g ry rv fun s4 I4 => ⟨σ, H4, I4, q3⟩
end
theorem dk_empty {P : Program} {w : World} {H : Hp} (h : Heap) (hb : sysModules < h.objs.size) : ObjOk P w H (h.push { cls := .type "dict", data := .dict #[] }) h.objs.size (.dK []) :=
  ⟨Nat.zero_le _, beq_eq_false_iff_ne.mpr (Ne.symm (Nat.ne_of_lt hb)), [], .nil, Heap.DictOf.new h⟩
theorem dt_empty {P : Program} {w : World} {H : Hp} (h : Heap) (hb : sysModules < h.objs.size) : ObjOk P w H (h.push { cls := .type "dict", data := .dict #[] }) h.objs.size (.dT []) :=
  ⟨Nat.zero_le _, beq_eq_false_iff_ne.mpr (Ne.symm (Nat.ne_of_lt hb)), [], .nil, _, #[], 0, Heap.get?_push_size _ rfl, ⟨rfl, rfl, rfl⟩, rfl, rfl, List.nodup_nil⟩
def tDNewK : TE := fun _ H Q => ∀ p, H p = none → Q (.ref p) (upd H p (.dK []))
def tDNewT : TE := fun _ H Q => ∀ p, H p = none → Q (.ref p) (upd H p (.dT []))
section
variable {X : Cx} {pos : Pos}
theorem pe_dnewT : PE X (.Dict [] [] pos) tDNewT := fun pins s σ H Q I h =>
  wpAny_Dict_empty ⟨.ref s.heap.objs.size, _, I.laid (a := s.heap.objs.size) (o := .dT []) (t' := s.toks) (fun _ _ q => Heap.get?_push_of_some _ q) (Nat.le_refl _) (dt_empty s.heap I.big), rfl, h _ (I.hok.fresh (Nat.le_refl _))⟩
end
def tPairs : List (TE × TE) → St → Hp → (List (V × V) → Hp → Prop) → Prop
  | [], _, H, Q => Q [] H
  | (tk, tv) :: r, σ, H, Q => tk σ H fun x H1 => tv σ H1 fun y H2 => tPairs r σ H2 fun ps H3 => Q ((x, y) :: ps) H3
abbrev VV : List (V × V) → List (Value × Value) → Prop := Paired fun p q => RelV p.1 q.1 ∧ RelV p.2 q.2
def PPs (X : Cx) (pos : Pos) (keys : List (Option Expr)) (values : List Expr) (trs : List (TE × TE)) : Prop :=
  ∀ (pins : List (Addr × Obj)) (s : Shared) (σ : St) (H : Hp) (Q : List (V × V) → Hp → Prop), Inv X pins σ H s → tPairs trs σ H Q →
    wpAny (model X.prog X.w) X.A (evalPairs (pairTrees keys values X.env pos)) (fun vs s' => ∃ ps H', Inv X pins σ H' s' ∧ VV ps vs ∧ Q ps H') X.xe s
theorem pps_nil {X : Cx} {pos : Pos} : PPs X pos [] [] [] := fun pins s σ H Q I h => pairTrees_nil_walk ⟨[], H, I, .nil, h⟩
theorem pps_cons {X : Cx} {pos : Pos} {k v : Expr} {ks : List (Option Expr)} {vs : List Expr} {tk tv : TE} {trs : List (TE × TE)} (hk : PE X k tk) (hv : PE X v tv) (hr : PPs X pos ks vs trs) :
    PPs X pos (some k :: ks) (v :: vs) ((tk, tv) :: trs) := fun pins s σ H Q I h =>
  pairTrees_cons_walk (thnE (hk pins s σ H _ I h) fun u s1 x H1 I1 rx q1 => thnE (hv pins s1 σ H1 _ I1 q1) fun w2 s2 y H2 I2 ry q2 =>
    thn (hr pins s2 σ H2 _ I2 q2) fun ws s3 ⟨ps, H3, I3, rel, q3⟩ => ⟨(x, y) :: ps, H3, I3, .cons ⟨rx, ry⟩ rel, q3⟩)
def mergeK (kvs more : List (Key × V)) : List (Key × V) := more.foldl (fun acc kv => putK acc kv.1 kv.2) kvs
theorem KV.merge : ∀ {more : List (Key × V)} {rs : List (Key × Value)} {kvs : List (Key × V)} {vs : List (Key × Value)}, KV more rs → KV kvs vs → KV (mergeK kvs more) (merged vs rs) := by
  intro more rs kvs vs r
  unfold KV at r
  induction r generalizing kvs vs with
  | nil => intro q; exact q
  | @cons p q ps qs h t ih =>
    intro r0
    have e : KV (putK kvs p.1 p.2) (stored vs q.1 q.2) := by
      have := r0.put p.1 h.2
      rw [← h.1]; exact this
    exact ih e
theorem length_mergeK : ∀ (more kvs : List (Key × V)), (mergeK kvs more).length ≤ kvs.length + more.length
  | [], kvs => by show kvs.length ≤ kvs.length + 0; omega
  | p :: r, kvs => by
    have h1 := length_mergeK r (putK kvs p.1 p.2)
    have h2 := length_putK kvs p.1 p.2
    show (mergeK (putK kvs p.1 p.2) r).length ≤ _
    rw [List.length_cons]; omega
theorem carries_of {P : Program} {w : World} : ∀ {kvs : List (Key × V)} {ws : List (Value × Value)}, VV (kvs.map fun kv => (kV kv.1, kv.2)) ws → ∃ rs, Carries (mixKind P w) ws rs ∧ KV kvs rs
  | [], _, r => by rw [List.map_nil] at r; cases r; exact ⟨[], True.intro, .nil⟩
  | p :: kvs, _, r => by
    rw [List.map_cons] at r
    cases r with
    | @cons a b as bs h t =>
      obtain ⟨rs, c, q⟩ := carries_of (P := P) (w := w) t
      obtain ⟨b1, b2⟩ := b
      exact ⟨(p.1, b2) :: rs, ⟨kV_is h.1, rfl, c⟩, .cons ⟨rfl, h.2⟩ q⟩
def tDisp (trs : List (TE × TE)) : TE := fun σ H Q => ∀ p, H p = none → tPairs trs σ (upd H p (.dK [])) fun ps H2 => H2 p = some (.dK []) ∧ ∃ kvs : List (Key × V), ps = kvs.map (fun kv => (kV kv.1, kv.2)) ∧ kvs.length ≤ 15 ∧ Q (.ref p) (upd H2 p (.dK (mergeK [] kvs)))
theorem pe_disp {X : Cx} {pos : Pos} {keys : List (Option Expr)} {values : List Expr} {trs : List (TE × TE)} (h : PPs X pos keys values trs) (hall : keys.all (·.isSome) = true) (hl : keys.length = values.length) (h0 : keys ≠ [])
    (h15 : keys.length ≤ 15) : PE X (.Dict keys values pos) (tDisp trs) := by
  intro pins s σ H Q I q
  have hn := I.hok.fresh (Nat.le_refl s.heap.objs.size)
  have I1 := I.laid (a := s.heap.objs.size) (o := .dK []) (h' := s.heap.push { cls := .type "dict", data := .dict #[] }) (t' := s.toks) (fun _ _ q => Heap.get?_push_of_some _ q) (Nat.le_refl _) (dk_empty s.heap I.big)
  refine wpAny_Dict_walk (knd := mixKind X.prog X.w) hall hl h0 h15 (thn (h pins _ σ _ _ I1 (q _ hn)) fun ws s2 ⟨ps, H2, I2, rel, e, kvs, ep, lk, q2⟩ => ?_)
  subst ep
  obtain ⟨rs, c, rk⟩ := carries_of (P := X.prog) (w := X.w) rel
  obtain ⟨z, hd, vs0, r0, dd⟩ := dk_of I2.hok e
  cases r0
  refine ⟨rs, c, dd, fun h' dd' hs => ⟨.ref s.heap.objs.size, _, ?_, rfl, q2⟩⟩
  have hz : (mergeK [] kvs).length ≤ sizeLine := by
    have h1 := length_mergeK kvs []
    rw [List.length_nil] at h1
    rw [sizeLine_eq]; omega
  have he : ∃ q, h'.get? s.heap.objs.size = some q := let ⟨q, _, _, hq, _⟩ := dd'; ⟨q, hq⟩
  exact d_write I2 (by rw [e]; exact True.intro) hs he (dk_new hz hd (rk.merge .nil) dd')
section
variable {X : Cx} {pins : List (Addr × Obj)} {σ : St} {H : Hp} {s : Shared} {a : Addr} {y d : V} {u r : Value} {o : Option V} {A : Around} {E : Value → Shared → Prop}
end
section
variable {X : Cx} {o e f : Expr} {apos cpos : Pos} {td ty tx : TE}
end
section
variable {X : Cx} {pins : List (Addr × Obj)} {σ : St} {H : Hp} {s : Shared} {a : Addr} {kvs : List (Key × V)} {A : Around} {E : Value → Shared → Prop}
end
section
variable {X : Cx} {pins : List (Addr × Obj)} {σ : St} {H : Hp} {s : Shared} {a : Addr} {y : V} {u : Value} {A : Around} {E : Value → Shared → Prop}
end
end L2
namespace Att
open PySem PySem.W PySem.Calls PyProof.Rows
theorem ints_of_wellAll {P : Params} {h : Heap} : ∀ (ns : List Int) (vs : List Value), WellAll P h vs (ns.map WData.int) → IntsAre vs ns := by
  intro ns
  induction ns with
  | nil =>
    intro vs w
    rw [List.map_nil] at w
    cases w
    exact .nil
  | cons n ns ih =>
    intro vs w
    rw [List.map_cons] at w
    cases w with
    | cons a b =>
      cases a
      exact .cons _ _ (ih _ b)
theorem script_of {l : OpenLaw} {n : Nat} (hn : l.most = some n) {P : Params} {h : Heap} {args : List WData} {vals : List Value}
    (hpre : l.row.toRowW.claim.pre args = true) (hwl : WellAll P h vals args) :
    ∃ a vs ns, vals = [Value.ref a] ∧ args = [WData.list (ns.map WData.int)] ∧ h.get? a = some { cls := .type "list", data := .seq vs.toArray } ∧ IntsAre vs ns ∧ ns.length ≤ n := by
  have hsh : WShape.hasAll [] args [.list .int] = true := (pre_splitW hpre).1
  have hc : l.pre.holds [] { args := args } = true := (pre_splitW hpre).2
  obtain ⟨d, r, rfl, h1, h2⟩ := hasAllW_cons hsh
  obtain rfl := hasAllW_nil h2
  obtain ⟨xs, rfl, h3⟩ := hasW_list h1
  obtain ⟨ns, rfl⟩ := items_int h3
  have hlen : ns.length ≤ n := by
    unfold OpenLaw.pre at hc
    have h4 : (WTm.not (.lt (.lit (.int (n : Int))) (.len (.arg 0)))).holds [] { args := [.list (ns.map .int)] } = true := by
      have h4 := (holds_andW hc).1
      rw [hn] at h4
      exact h4
    have h5 := condW_of h4 (w_not (w_lt w_lit (w_len_list (w_arg rfl))))
    rw [List.length_map] at h5
    refine Nat.le_of_not_lt fun q => ?_
    have q' : (n : Int) < ((ns.length : Nat) : Int) := by omega
    first
      | (rw [decide_eq_true q'] at h5; exact absurd h5 (by decide))
      | (simp at h5; omega)
  cases hwl with
  | cons w1 w2 =>
    cases w2
    cases w1 with
    | list ho hall => exact ⟨_, _, ns, rfl, rfl, ho, ints_of_wellAll ns _ hall, hlen⟩
theorem post_true (l : OpenLaw) (args : List WData) : l.row.toRowW.claim.post args (.bool true) args = true :=
  postW_of (r := l.row.toRowW) (X := (true == true))
    (show WShape.has [] (.bool true) .bool = true by first | rfl | decide | simp [WShape.has, WShape.arms, WShape.armsAll])
    (show (WTm.eq .res (.lit (.bool true))).value [] { args := args, res := some (.bool true), after := args } = some (.bool (true == true)) from w_eq_bool (w_res rfl) w_lit) rfl
theorem attach_call {l : OpenLaw} {n : Nat} {q : Program} {loose : List Str} {XP : (Str → Option Value) → Heap → Prop} {YP : World → Heap → Prop} {d : DefRec}
    (hn : l.most = some n) (hdf : d.params.defaults = [])
    (call : ∀ (w : World) (s₀ s₁ : Shared) (mg mb : Str → Option Value) (fa : Addr) (o : Obj) (pm cd doc : Value) (a : Addr) (vs : List Value) (ns : List Int),
      Ground q loose [] XP w s₀ mg mb s₁.heap → YP w s₁.heap →
      s₁.heap.get? fa = some o → o.data = .func (docDef d.name d.params d.body d.scope pm cd doc) → s₁.heap.CodeRec cd d.name → mg d.name = some (.ref fa) →
      s₁.heap.get? a = some { cls := .type "list", data := .seq vs.toArray } → IntsAre vs ns → ns.length ≤ n → s₁.gens = #[] →
      codeAny (model l.prog w) callerA (.call (.ref fa) ⟨[.ref a], []⟩) (fun r s' => r = .ok (.ret (.bool true)) ∧ OldK s₁.heap s'.heap ∧ s'.os = s₁.os ∧ AllBare s'.gens) s₁) :
    WalkO q loose XP YP l.row.toRowW d [] (fun f vs => PySem.call f vs) := by
  intro w s₀ s₁ mg mb G Y fa o pm cd doc dV kV ho hd hcd hD hmg hg args vals as hpre hlay hrd hwl hlo
  obtain rfl : dV = .none := Dflts.none hD hdf
  obtain rfl : kV = .none := Dflts.noKw hD
  obtain ⟨a, vs, ns, rfl, rfl, hobj, hints, hlen⟩ := script_of hn hpre hwl
  refine enter_call (codeAny_mono (call w s₀ s₁ mg mb fa o pm cd doc a vs ns G Y ho (fd_plain hd) hcd hmg hobj hints hlen hg) fun r s' hq => ?_)
  obtain ⟨rfl, h2, h3, h4⟩ := hq
  exact ⟨.inl ⟨.bool true, .bool true, [], rfl, fun _ => rfl, .bool true, post_true l _, fun _ => ⟨List.Pairwise.nil, fun _ hm => (nomatch hm)⟩⟩, h2, h3, h4⟩
section
variable {prog : Program} {w : World} {A : Around} {E : Value → Shared → Prop} {s : Shared} {K : Frag}
end
end Att
namespace L2
open PySem PySem.Spec PyProof.Rows
theorem vals_ints : ∀ {vs : List Value} {ns : List Int}, IntsAre vs ns → Vals (ns.map V.int) vs
  | _, _, .nil => .nil
  | _, _, .cons n t h => .cons ⟨t, rfl⟩ (vals_ints h)
def Only (H : Hp) : Prop := ∀ b, H b = none ∨ ∃ o xs, H b = some (.frz o (.lst xs))
theorem law_call {P : Program} {w : World} {K : PySem.W.Frag} {mg mb : Str → Option Value} {CX : CXT} {k : Nat} {fa a : Addr} {fd : FuncData} {x : Str} {sp : Sp} {s₁ : Shared} {vs : List Value} {ns : List Int}
    (KX : K.In s₁.heap) (hns : s₁.heap.Ns mainGlobals mg) (hb : s₁.heap.Ns builtinsNs mb) (hbb : ∀ x : Str, x ≠ "__name__" → mb x = bootBuiltins x) (hlim : s₁.heap.NoLimit) (hg : s₁.gens = #[])
    (ha : s₁.heap.get? a = some { cls := .type "list", data := .seq vs.toArray }) (hi : IntsAre vs ns) (hl : ns.length ≤ sizeLine) (hr : Room k callerA)
    (F : ∀ base : Heap, K.In base → base.Ns mainGlobals mg → FnOk P w K mg base CX k fa fd [x] sp) (hbind : ∀ (s : Shared) (u : Value), BindsTo s fd ⟨[u], []⟩ [(x, u)])
    (hsp : ∀ H : Hp, Only H → SqL K H a (ns.map V.int) → sp [.ref a] H (fun v _ => v = .bl true) fun _ _ _ => False)
    (hCX : ∀ H e s', CX [] H s₁ (fun _ _ _ => False) e s' → False) :
    codeAny (model P w) callerA (.call (.ref fa) ⟨[.ref a], []⟩) (fun r s' => r = .ok (.ret (.bool true)) ∧ OldK s₁.heap s'.heap ∧ s'.os = s₁.os ∧ AllBare s'.gens) s₁ := by
  have rv := vals_ints hi
  have lenV := hi.length
  -- from an abstract heap in which nothing but the script may be tracked
  have core : ∀ H : Hp, Only H → SqL K H a (ns.map V.int) → HOk P w H s₁.heap → (∀ b, H b ≠ none → b = a) → (H a ≠ none → K.lookup a = none) →
      codeAny (model P w) callerA (.call (.ref fa) ⟨[.ref a], []⟩) (fun r s' => r = .ok (.ret (.bool true)) ∧ OldK s₁.heap s'.heap ∧ s'.os = s₁.os ∧ AllBare s'.gens) s₁ := by
    intro H hO hS hok hA hK
    have base_of : ∀ {b : Addr} {o : Obj}, s₁.heap.get? b = some o → H b = none → (hidT s₁.heap H).get? b = some o := fun e n => hidT_get e n
    have noA : ∀ {b : Addr} {o : Obj} {es : Array DictEntry} {ep : Nat}, s₁.heap.get? b = some o → o.data = .dict es ep → H b = none := fun {b o es ep} e d => by
      cases q : H b with
      | none => rfl
      | some u =>
        have e' : b = a := hA b (by rw [q]; simp)
        subst e'
        rw [ha] at e; cases e
        have d' : Data.seq vs.toArray _ = Data.dict es ep := d
        cases d'
    have nsK : ∀ {b : Addr} {m : Str → Option Value}, s₁.heap.Ns b m → (hidT s₁.heap H).Ns b m := fun {b m} ⟨o, es, ep, e, d, r⟩ => ⟨o, es, ep, base_of e (noA e d), d, r⟩
    have hKb : K.In (hidT s₁.heap H) := fun b o e => base_of (KX b o e) (by
      cases q : H b with
      | none => rfl
      | some u =>
        have e' : b = a := hA b (by rw [q]; simp)
        subst e'
        rw [hK (by rw [q]; simp)] at e; cases e)
    have hM : Mod K mg (hidT s₁.heap H) := ⟨hKb, nsK hns, ⟨mb, nsK hb, hbb⟩, let ⟨mc, h1, h2⟩ := hlim; ⟨mc, nsK h1, h2⟩⟩
    have e0 : Env0 P w K mg (hidT s₁.heap H) callerA [] s₁ H := ⟨rfl, hM, fun b o e => of_hidT e, Nat.le_of_eq (hidT_size _ _), trivial, fun b hb => absurd (show b ∈ ([] : List Addr) from hb) (by simp), hok, .of_eq hg⟩
    refine codeAny_mono ((F _ hKb (nsK hns)).run callerA [] s₁ H ⟨[.ref a], []⟩ [.ref a] [.ref a] _ _ hr e0 (hbind s₁ (.ref a)) (.cons rfl .nil) (hsp H hO hS)) fun r s' h => ?_
    cases r with
    | error e => exact (hCX H e s' h).elim
    | ok fl =>
      cases fl with
      | next => exact False.elim h
      | brk => exact False.elim h
      | cont => exact False.elim h
      | ret u =>
        obtain ⟨v, H', os, bare, un, hok', r', q⟩ := h
        have q' : v = .bl true := q
        subst q'
        obtain rfl : u = Value.bool true := r'
        refine ⟨rfl, OldK.of_keep fun b o e => ?_, os, bare⟩
        cases q : H b with
        | none => exact un.keep b o e q (by intro z; exact absurd (show b ∈ ([] : List Addr) from z) (by simp)) (by simp)
        | some u =>
          rcases hO b with z | ⟨ob, xs, z⟩
          · rw [q] at z; cases z
          · have z2 := un.frzs b ob _ z
            obtain ⟨e1, _⟩ := hok b _ z
            obtain ⟨e2, _⟩ := hok' b _ z2
            rw [e] at e1; cases e1
            exact e2
  cases hk : K.lookup a with
  | some o =>
    -- the script is one of the module's own objects
    have e := KX a o hk
    rw [ha] at e
    cases e
    refine core (fun _ => none) (fun _ => .inl rfl) (.inr ⟨_, vs.toArray, _, hk, rfl, rfl, rfl, by rw [List.size_toArray, lenV]; exact hl, by simpa using rv⟩) (fun b u z => by have z' : (none : Option HO) = some u := z; cases z') (fun b z => absurd rfl z) fun z => absurd rfl z
  | none =>
    refine core (fun b => if b = a then some (.frz { cls := .type "list", data := .seq vs.toArray } (.lst (ns.map V.int))) else none) (fun b => ?_) (.inl (.inr ⟨{ cls := .type "list", data := .seq vs.toArray }, if_pos rfl⟩)) (fun b u z => ?_) (fun b z => ?_) fun _ => hk
    · by_cases hb : b = a
      · exact .inr ⟨_, _, if_pos hb⟩
      · exact .inl (if_neg hb)
    · by_cases hb : b = a
      · have z' := (if_pos hb).symm.trans z
        cases z'
        subst hb
        exact ⟨ha, by rw [List.length_map]; exact hl, vs, _, rv, ha⟩
      · have z' := (if_neg hb).symm.trans z
        cases z'
    · by_cases hb : b = a
      · exact hb
      · exact absurd (if_neg hb) z
end L2
namespace L2
open PySem PySem.Spec PyProof.Rows
theorem walk_of {l : PySem.W.OpenLaw} {n k : Nat} {q : Program} {loose : List Str} {XP : (Str → Option Value) → Heap → Prop} {YP : World → Heap → Prop} {d : DefRec} {K : Params → PySem.W.Frag} {CX : World → CXT} {sp : World → Sp} {x : Str}
    (hn : l.most = some n) (hn2 : n ≤ sizeLine) (hdf : d.params.defaults = []) (hr : Room k callerA)
    (hY : ∀ (w : World) (h : Heap), YP w h → (K w.params).In h)
    (F : ∀ (w : World) (mg : Str → Option Value) (fa : Addr) (h : Heap), (K w.params).In h → h.Ns mainGlobals mg → mg d.name = some (.ref fa) →
      ∃ fd : FuncData, (∀ (s : Shared) (u : Value), BindsTo s fd ⟨[u], []⟩ [(x, u)]) ∧
        ∀ base : Heap, (K w.params).In base → base.Ns mainGlobals mg → FnOk l.prog w (K w.params) mg base (CX w) k fa fd [x] (sp w))
    (hsp : ∀ (w : World) (H : Hp) (a : Addr) (ns : List Int), ns.length ≤ n → Only H → SqL (K w.params) H a (ns.map V.int) → sp w [.ref a] H (fun v _ => v = .bl true) fun _ _ _ => False)
    (hCX : ∀ (w : World) (H : Hp) (s : Shared) (e : Value) (s' : Shared), CX w [] H s (fun _ _ _ => False) e s' → False) :
    PySem.W.WalkO q loose XP YP l.row.toRowW d [] (fun f vs => PySem.call f vs) := by
  refine Att.attach_call hn hdf fun w s₀ s₁ mg mb fa o pm cd doc a vs ns G Y ho hd hcd hmg hobj hints hlen hg => ?_
  have KX := hY w _ Y
  obtain ⟨fd, hb, hF⟩ := F w mg fa _ KX G.T.g hmg
  exact law_call KX G.T.g G.T.b G.T.builtins G.T.nolimit hg hobj hints (Nat.le_trans hlen hn2) hr hF hb (fun H hO hS => hsp w H a ns hlen hO hS) fun H e s' => hCX w H s₁ e s'
end L2
namespace L2
open PySem PySem.Spec PyProof.Rows
def inClass (s : Stmt) (j : Nat) : Stmt := match s with
  | .ClassDef _ _ _ body _ _ _ _ _ _ _ => body.getD j (.Pass ⟨0, 0, 0, 0⟩)
  | _ => .Pass ⟨0, 0, 0, 0⟩
def defArgs (s : Stmt) : Arguments := match s with
  | .FunctionDef _ a _ _ _ _ _ _ _ _ => a
  | _ => { posonlyargs := [], args := [], vararg := none, kwonlyargs := [], kw_defaults := [], kwarg := none, defaults := [] }
def defBody (s : Stmt) : List Stmt := match s with
  | .FunctionDef _ _ b _ _ _ _ _ _ _ => b
  | _ => []
def defScope (s : Stmt) : Scope := match s with
  | .FunctionDef _ _ _ _ _ _ sc _ _ _ => sc
  | _ => { kind := .function, names := [], isGenerator := false, isCoroutine := false }
abbrev CX0 : CXT := fun _ _ _ _ _ _ => False
abbrev E0 : XK := fun _ _ _ => False
structure Fun (K : PySem.W.Frag) (x qual : Str) (st : Stmt) (f : Addr) (fd : FuncData) : Prop where
  ex : ∃ (oc : Value) (od : Option Addr) (kV doc pm : Value) (an : Option Addr) (cdv ct : Value) (osl : Array (Option Value)),
    fd = PySem.W.fnOf x qual (defArgs st) (defBody st) (defScope st) .none kV doc pm an cdv ct ∧ K.lookup f = some ⟨oc, od, .func fd, osl⟩ ∧ PySem.W.codeIn K cdv qual = true
  kp : PySem.W.keepIn K (.ref f) = true
section
variable {P : Program} {w : World} {K : PySem.W.Frag} {mg : Str → Option Value} {base : Heap}
theorem Fun.binds {x qual : Str} {st : Stmt} {f : Addr} {fd : FuncData} {ps : List Str} (F : Fun K x qual st f fd)
    (h : ∀ (kV doc pm : Value) (an : Option Addr) (cdv ct : Value) (us : List Value), us.length = ps.length → bindArgs (PySem.W.fnOf x qual (defArgs st) (defBody st) (defScope st) .none kV doc pm an cdv ct) ⟨us, []⟩ = pure (ps.zip us)) : Binds K fd ps [] := by
  obtain ⟨oc, od, kV, doc, pm, an, cdv, ct, osl, rfl, lk, hcd⟩ := F.ex
  exact .all (h kV doc pm an cdv ct)
theorem fun_mk {x qual : Str} {st : Stmt} {f : Addr} {oc : Value} {od an : Option Addr} {osl : Array (Option Value)} {kV doc pm cdv ct : Value} (l : K.lookup f = some ⟨oc, od, .func (PySem.W.fnOf x qual (defArgs st) (defBody st) (defScope st) .none kV doc pm an cdv ct), osl⟩)
    (c : PySem.W.codeIn K cdv qual = true) (k : PySem.W.keepIn K (.ref f) = true) : Fun K x qual st f (PySem.W.fnOf x qual (defArgs st) (defBody st) (defScope st) .none kV doc pm an cdv ct) := ⟨⟨oc, od, kV, doc, pm, an, cdv, ct, osl, rfl, l, c⟩, k⟩
end
theorem hu_of {A : Around} {k : Nat} (hr : Room k A) : A.units + 1 < cLine := Nat.lt_of_le_of_lt (Nat.add_le_add_left (by decide : 1 ≤ 64) _) hr.units
section
variable {X : Cx}
theorem pv (i : Nat) {x : Str} {pos : Pos} (hN : X.N[i]? = some x := by rfl) (hv : Vis X.env.scope x := by first | exact Or.inl rfl | exact Or.inr (Or.inl rfl) | exact Or.inr (Or.inr rfl)) (hd : (x == ("__debug__" : Str)) = false := by decide)
    (hcd : (x == ("__classdict__" : Str)) = false := by decide) : PE X (.Name x pos) (tVar i) := pe_var hN hv hd hcd
end
theorem iteF {A B : Prop} (h : B) : if false = true then A else B := by
  rw [if_neg Bool.false_ne_true]
  exact h
theorem iteT {A B : Prop} (h : A) : if true = true then A else B := by
  rw [if_pos rfl]
  exact h
def Same (H H' : Hp) : Prop := ∀ b o, H b = some o → H' b = some o
theorem Same.refl (H : Hp) : Same H H := fun _ _ h => h
theorem Same.trans {H H1 H2 : Hp} (a : Same H H1) (b : Same H1 H2) : Same H H2 := fun c o h => b c o (a c o h)
theorem Same.free {H H' : Hp} (e : Same H H') {l : Addr} (h : H' l = Option.none) : H l = Option.none := by
  cases q : H l with
  | none => rfl
  | some o =>
    rw [e l o q] at h
    cases h
theorem Same.seq {K : PySem.W.Frag} {H H' : Hp} {a : Addr} {xs : List V} (e : Same H H') (h : SqL K H a xs) : SqL K H' a xs := by
  rcases h with (h | ⟨o, h⟩) | h
  · exact .inl (.inl (e _ _ h))
  · exact .inl (.inr ⟨o, e _ _ h⟩)
  · exact .inr h
end L2
namespace L2
open PySem PySem.Spec PyProof.Rows
section
variable {X : Cx}
theorem call_lenD : CallR X (.builtin "len") (fun xs H Q => ∃ a kvs, xs = [V.ref a] ∧ H a = some (.dK kvs) ∧ Q (.int kvs.length) H) := by
  intro pins s σ H xs us Q I r h
  obtain ⟨a, kvs, rfl, ha, q⟩ := h
  obtain ⟨u, rfl, ru⟩ := vals1 r
  cases ru
  exact d_len I (.inl ha) fun t s' I' => ⟨.int kvs.length, H, I', ⟨t, rfl⟩, q⟩
end
section
variable {κ : Type} [DecidableEq κ]
end
end L2
set_option Elab.async false
set_option linter.all false
set_option maxRecDepth 100000
namespace L2
open PySem PySem.Spec PyProof.Rows
def Cx.comp (X : Cx) (Nc : List Str) (scope : Scope) (cl : List (Str × Addr)) (C : Addr) (s₂ : Shared) (H₁ : Hp) (fp : List Addr) : Cx where
  prog := X.prog
  w := X.w
  K := X.K
  mg := X.mg
  base := X.base
  A := X.A
  N := Nc
  s₀ := s₂
  H₀ := H₁
  env := compEnvC scope cl C X.env
  outer := X.stack
  stack := X.stack
  ex := fp
  fn := fun _ => false
  calm := X.calm
  pn := []
  xe := fun _ _ => False
structure CompTxt (X : Cx) (Nc : List Str) (own : Nat) (js : List Nat) (scope : Scope) (cl : List (Str × Addr)) : Prop where
  clos : closureFor scope X.env = pure cl
  kind : scope.kind = .function
  nocell : ∀ y ∈ scope.names, y.2 ≠ .cell
  names : ∀ y ∈ scope.names, y.2 = .local → scope.names.lookup y.1 = some .local
  cells : ∀ x c, cl.lookup x = some c → X.env.cells.lookup x = some c
  has : ∀ x, ((relabel scope X.env).names.lookup x = some .cell ∨ (relabel scope X.env).names.lookup x = some .free) → ∃ c, cl.lookup x = some c
  len : Nc.length = own + js.length
  outer : ∀ i x, Nc[own + i]? = some x → ∃ j, js[i]? = some j ∧ X.N[j]? = some x ∧ X.env.scope.names.lookup x = some .cell ∧ (relabel scope X.env).names.lookup x = some .cell
def compStart0 (own : Nat) (js : List Nat) (σ : St) : St := List.replicate own none ++ js.map fun j => (σ[j]?).getD none
def tComp (own : Nat) (js : List Nat) (wi : TI) (g : TG) (tc : TT) (te : TE) : TE := fun σ H Q => wi σ H fun J H1 => ∀ p, H1 p = none →
  ∃ W : Nat → Nat → List V → St → Hp → Prop, (∃ m, W 0 m [] (compStart0 own js σ) (upd H1 p (.lst []))) ∧ ∀ i m ys σc Hc, W i m ys σc Hc →
    (J.stop i Hc ∧ Q (.ref p) Hc) ∨ (J.go i Hc ∧ ∀ x H', J.yld i Hc x H' → g x σc H' fun σ2 H2 => tc σ2 H2 fun b H3 =>
      if b = true then te σ2 H3 fun y H4 => H4 p = some (.lst ys) ∧ ys.length < sizeLine ∧ ∃ m', m' < m ∧ W (i + 1) m' (ys ++ [y]) σ2 (upd H4 p (.lst (ys ++ [y])))
      else ∃ m', m' < m ∧ W (i + 1) m' ys σ2 H3)
def PTs (X : Cx) (ifs : List Expr) (t : TT) : Prop :=
  ∀ (pins : List (Addr × Obj)) (s : Shared) (σ : St) (H : Hp) (Q : Bool → Hp → Prop), Inv X pins σ H s → t σ H Q →
    wpAny (model X.prog X.w) X.A (forIn ifs true fun c r => if r = true then do let ok ← isTrue c X.env (eval c X.env); pure (ForInStep.yield ok) else pure (ForInStep.yield r)) (TP X pins σ Q) X.xe s
def tYes : TT := fun _ H Q => Q true H
theorem pts_nil {X : Cx} : PTs X [] tYes := fun pins s σ H Q I h => wpAny_tests_nil ⟨H, I, h⟩
theorem pts_one {X : Cx} {c : Expr} {t : TT} (h : PT X c t) : PTs X [c] t := fun pins s σ H Q I q => wpAny_tests_one (h pins s σ H Q I q)
section
variable {prog : Program} {w : World} {A : Around} {E : Value → Shared → Prop} {R : Result → Shared → Prop} {s : Shared}
theorem compLoop_go {elt target iter : Expr} {ifs : List Expr} {scope : Scope} {pos : Pos} {it acc : Value} {env : Env} (I : Nat → Shared → Prop)
    (turn : ∀ n s, I n s → wpAny (model prog w) A (pyNext it) (fun r s₁ => match r with
      | none => R (.ok .next) s₁
      | some v => wpAny (model prog w) A (letOwnedTupleGo target it v) (fun _ s₁' => wpAny (model prog w) A (assign target env v) (fun _ s₂ =>
          wpAny (model prog w) A (forIn ifs true fun c r => if r = true then do let ok ← isTrue c env (eval c env); pure (ForInStep.yield ok) else pure (ForInStep.yield r)) (fun ok s₃ =>
            if ok = true then wpAny (model prog w) A (eval elt env) (fun x s₄ =>
              wpAny (model prog w) A (call (.builtin "list.append") [acc, x]) (fun _ s₅ => ∃ m, m < n ∧ I m s₅) (fun _ _ => False) s₄) (fun _ _ => False) s₃
            else ∃ m, m < n ∧ I m s₃) (fun _ _ => False) s₂) (fun _ _ => False) s₁') (fun _ _ => False) s₁) (fun _ _ => False) s)
    (n : Nat) (h : I n s) :
    codeAny (model prog w) A (.compLoop (.ListComp elt [⟨target, iter, ifs, 0⟩] scope pos) 0 it acc env) R s := by
  refine codeAny_loop rfl I (fun n s hI => ?_) n h
  show wpAny _ A ((compTurn (.ListComp elt [⟨target, iter, ifs, 0⟩] scope pos) 0 it acc env).onRaise (fun x => do noteFrame x env; theTreesLotGoes x)) _ _ s
  refine wpAny_noted ?_
  rw [compTurn_list]
  refine wpAny_bind (wpAny_standAt (wpAny_bind (wpAny_mono (turn n s hI) (fun r s₁ h₁ => ?_) fun _ _ h' => h'.elim)))
  cases r with
  | none => exact wpAny_pure h₁
  | some v =>
    refine wpAny_bind (wpAny_mono h₁ (fun _ s₁' h₁' => ?_) fun _ _ h' => h'.elim)
    refine wpAny_bind (wpAny_mono h₁' (fun _ s₂ h₂ => wpAny_bind (wpAny_mono h₂ (fun ok s₃ h₃ => ?_) fun _ _ h' => h'.elim)) fun _ _ h' => h'.elim)
    cases ok with
    | true =>
      rw [if_pos rfl] at h₃
      simp only [if_true]
      exact wpAny_bind (wpAny_bind (wpAny_mono h₃ (fun x s₄ h₄ => wpAny_bind (wpAny_mono h₄ (fun _ s₅ h₅ => wpAny_pure (wpAny_pure ⟨rfl, h₅⟩)) fun _ _ h' => h'.elim)) fun _ _ h' => h'.elim))
    | false =>
      rw [if_neg Bool.false_ne_true] at h₃
      simp only [Bool.false_eq_true, if_false]
      first
        | exact wpAny_pure ⟨rfl, h₃⟩
        | exact wpAny_bind (wpAny_pure (wpAny_pure ⟨rfl, h₃⟩))
end
end L2
set_option Elab.async false
set_option linter.all false
set_option maxRecDepth 100000
namespace L2
open PySem PySem.Spec PyProof.Rows
section
variable {X : Cx} {Nc : List Str} {own : Nat} {js : List Nat} {scope : Scope} {cl : List (Str × Addr)}
theorem comp_ok {pins : List (Addr × Obj)} {σ : St} {H₁ : Hp} {s₂ : Shared} {C : Addr} {fp : List Addr} (T : CompTxt X Nc own js scope cl) (I : Inv X pins σ H₁ s₂) (hC : s₂.heap.objs.size ≤ C)
    (f1 : ∀ b ∈ fp, FpOk X pins H₁ b) (hlt : ∀ b ∈ fp, b < s₂.heap.objs.size) : (X.comp Nc scope cl C s₂ H₁ fp).Ok where
  mod := I.ok.mod
  kind := by show (relabel scope X.env).kind = _; exact T.kind
  glob := I.ok.glob
  blt := I.ok.blt
  above := hC
  inj := fun x y c h1 h2 => I.ok.inj x y c (T.cells x c h1) (T.cells y c h2)
  has := fun x h => T.has x h
  cab := fun x c h => by cases h
  hd := I.ok.hd
  frames := I.ok.frames
  stk := .inl rfl
  exf := fun b hb => ⟨Nat.ne_of_lt (Nat.lt_of_lt_of_le (hlt b hb) hC), fun x c h => (f1 b hb).2.2.2.2.1 x c (T.cells x c h)⟩
  bs := I.bs
  bsz := Nat.le_trans I.ok.bsz I.sz
  noex := fun b o e hb => by
    rcases (f1 b hb).2.2.2.1 with z | z
    · exact I.ok.noex b o e z
    · exact absurd (Nat.lt_of_lt_of_le (Heap.lt_size (I.ok.bs b o e).1) z) (Nat.lt_irrefl _)
  exfs := fun b hb hs => by
    rcases List.mem_cons.mp (I.stkSub b hs) with z | z
    · exact (f1 b hb).2.1 z
    · exact (f1 b hb).2.2.1 z
  funs := I.stack
  frf := I.stkFree
theorem comp_inv {pins : List (Addr × Obj)} {σ : St} {H₁ : Hp} {s₂ : Shared} {C D : Addr} {fp : List Addr} {h₁ : Heap} {t : Nat} {m : Str → Option Value} (T : CompTxt X Nc own js scope cl) (I : Inv X pins σ H₁ s₂) (hC : s₂.heap.objs.size ≤ C)
    (hD : s₂.heap.objs.size ≤ D) (hDC : D ≠ C) (f1 : ∀ b ∈ fp, FpOk X pins H₁ b) (hlt : ∀ b ∈ fp, b < s₂.heap.objs.size) (old : ∀ b o, s₂.heap.get? b = some o → h₁.get? b = some o) (hns : h₁.Ns C m)
    (hacc : ∃ n, h₁.get? D = some { cls := .type "list", data := .seq ([] : List Value).toArray n }) :
    Inv (X.comp Nc scope cl C s₂ H₁ fp) [] (compStart0 own js σ) (upd H₁ D (.lst [])) { s₂ with heap := h₁, toks := t } := by
  obtain ⟨na, hacc⟩ := hacc
  have cellK : ∀ c v, s₂.heap.IsCell c v → h₁.IsCell c v := fun c v ⟨o, ho, hd⟩ => ⟨o, old c o ho, hd⟩
  refine ⟨comp_ok T I hC f1 hlt, rfl, I.bare, Un.laid old hD (I.hok.fresh hD), ⟨m, hns, fun i x v e1 e2 e3 => ?_⟩, fun x c e => ?_, ?_, fun x c e => ?_, fun p hp => (by cases hp), I.hok.laid old hD ?_, ?_⟩
  · have hN : Nc[i]? = some x := e1
    have hσ : (compStart0 own js σ)[i]? = some (some v) := e2
    unfold compStart0 at hσ
    by_cases hi : i < own
    · rw [List.getElem?_append_left (by simpa using hi), List.getElem?_replicate] at hσ
      simp [hi] at hσ
    · obtain ⟨k, rfl⟩ : ∃ k, i = own + k := ⟨i - own, by omega⟩
      rw [List.getElem?_append_right (by simp)] at hσ
      simp only [List.length_replicate, Nat.add_sub_cancel_left, List.getElem?_map] at hσ
      obtain ⟨j, hj, hx, hk, hr⟩ := T.outer k x hN
      rw [hj] at hσ
      replace hσ : some (σ[j]?.getD none) = some (some v) := hσ
      have hσj : σ[j]? = some (some v) := by
        cases q : σ[j]? with
        | none => rw [q] at hσ; simp at hσ
        | some y => rw [q] at hσ; simpa using hσ
      obtain ⟨m0, hn0, hl0⟩ := I.loc
      obtain ⟨u, ru, lk⟩ := hl0 j x v hx hσj (.inr (.inl hk))
      refine ⟨u, ru, .inr ⟨.inl hr, ?_⟩⟩
      rcases lk with ⟨z, _⟩ | ⟨_, c, hc, hcell⟩
      · have z' : X.env.scope.names.lookup x = some .local := z
        rw [hk] at z'; cases z'
      · obtain ⟨c', hc'⟩ := T.has x (.inl hr)
        have := T.cells x c' hc'
        rw [hc] at this; cases this
        exact ⟨c, hc', cellK c _ hcell⟩
  · obtain ⟨v, z⟩ := I.cell x c (T.cells x c e)
    exact ⟨v, cellK c v z⟩
  · show upd H₁ D (.lst []) C = none
    rw [upd_ne (Ne.symm hDC)]
    exact I.hok.fresh hC
  · have e' := T.cells x c e
    obtain ⟨v, o, ho, _⟩ := I.cell x c e'
    rw [upd_ne (Nat.ne_of_lt (Nat.lt_of_lt_of_le (Heap.lt_size ho) hD))]
    exact I.freeC x c e'
  · exact ⟨Nat.zero_le _, [], na, .nil, hacc⟩
  · show (compStart0 own js σ).length = Nc.length
    rw [T.len]
    simp [compStart0]
theorem comp_back {pins : List (Addr × Obj)} {σ σc : St} {H₁ H' : Hp} {s₂ s' : Shared} {C : Addr} {fp : List Addr} {h' : Heap} (I : Inv X pins σ H₁ s₂) (hC : s₂.heap.objs.size ≤ C)
    (f1 : ∀ b ∈ fp, FpOk X pins H₁ b) (I' : Inv (X.comp Nc scope cl C s₂ H₁ fp) [] σc H' s') (hs : Heap.SameBut C s'.heap h') : Inv X pins σ H' { s' with heap := h' } := by
  have u : Un (frs X.stack) fp H₁ H' s₂.heap s'.heap := I'.base
  have ne : ∀ b o, s₂.heap.get? b = some o → b ≠ C := fun b o e => Nat.ne_of_lt (Nat.lt_of_lt_of_le (Heap.lt_size e) hC)
  have k : ∀ b o, b ≠ C → s'.heap.get? b = some o → h'.get? b = some o := fun b o n e => hs.extBut b o n e
  have u' : Un (frs X.stack) fp H₁ H' s₂.heap h' := ⟨fun b o e n hb hx => k b o (ne b o e) (u.keep b o e n hb hx), fun b o e n hb hx => let ⟨sl, q⟩ := u.slot b o e n hb hx; ⟨sl, k b _ (ne b o e) q⟩,
    u.free, fun b o e hx => let ⟨o', q⟩ := u.there b o e hx; ⟨o', k b o' (ne b o e) q⟩, u.tups, u.frzs, u.tbls⟩
  have hfree : H' C = none := I'.free
  have hok' : HOk X.prog X.w H' h' := fun a o e => (I'.hok a o e).stay (fun b v hb q => k b v (fun z => by
    rcases hb with y | y
    · rw [y] at z; rw [z, hfree] at e; cases e
    · rw [z, hfree] at y; cases y) q) (fun _ q => q) fun _ _ q => q
  exact I.call' (s' := { s' with heap := h' }) (ch := fp) I'.os u' hok' I'.bare fun b hb => ⟨(f1 b hb).2.2.2.1, (f1 b hb).2.1, (f1 b hb).2.2.2.2.1, (f1 b hb).2.2.2.2.2⟩
theorem pe_comp {elt target iter : Expr} {ifs : List Expr} {pos : Pos} {wi : TI} {g : TG} {tc : TT} {te : TE} (hc : X.calm = true) (T : CompTxt X Nc own js scope cl)
    (hi : PI X target iter wi) (hg : ∀ C s₂ H₁ fp, PG (X.comp Nc scope cl C s₂ H₁ fp) target g) (ht : ∀ C s₂ H₁ fp, PTs (X.comp Nc scope cl C s₂ H₁ fp) ifs tc)
    (he : ∀ C s₂ H₁ fp, PE (X.comp Nc scope cl C s₂ H₁ fp) elt te) (hs : ∀ x, foldedSetIterable iter X.env x = pure x := by intro _; rfl) :
    PE X (.ListComp elt [⟨target, iter, ifs, 0⟩] scope pos) (tComp own js wi g tc te) := by
  intro pins s σ H Q I h
  rw [eval_ListComp]
  refine wpAny_comprehension_free (use := none) rfl hs T.clos T.kind T.names (thn (hi pins s σ H _ I h) fun v s1 h1 => thn h1 fun itv s2 h2 => ?_)
  obtain ⟨it, fp, tn, J, H1, rfl, I1, Tn, st, f1, R⟩ := h2
  have hfp : ∀ b ∈ fp, b < s2.heap.objs.size := fun b hb => let ⟨o, e, _⟩ := Tn.obj _ _ st b hb; Heap.lt_size e
  refine wpAny_newObj_type (wpAny_newFunctionEnv T.nocell (by intro y hy; simp at hy) (fun h₁ hns₁ hsb₁ => ?_) T.kind)
  dsimp only at hns₁ hsb₁ ⊢
  generalize hH2 : s2.heap.push { cls := .type "list", dict := none, data := .seq ([] : List Value).toArray } = H2 at hns₁ hsb₁ ⊢
  have hC : H2.objs.size = s2.heap.objs.size + 1 := by rw [← hH2, Heap.size_push]
  have hDC : s2.heap.objs.size ≠ H2.objs.size := by rw [hC]; exact Nat.ne_of_lt (Nat.lt_succ_self _)
  have hCle : s2.heap.objs.size ≤ H2.objs.size := by rw [hC]; exact Nat.le_succ _
  have below : ∀ b, b < s2.heap.objs.size → b ≠ H2.objs.size := fun b hb => by rw [hC]; exact Nat.ne_of_lt (Nat.lt_succ_of_lt hb)
  have old : ∀ b o, s2.heap.get? b = some o → h₁.get? b = some o := fun b o e => hsb₁.extBut b o (below b (Heap.lt_size e)) (Heap.get?_push_of_some _ (hH2 ▸ Heap.get?_push_of_some _ e))
  have hacc : ∃ n, h₁.get? s2.heap.objs.size = some { cls := .type "list", data := .seq ([] : List Value).toArray n } := ⟨_, hsb₁.extBut _ _ hDC (Heap.get?_push_of_some _ (hH2 ▸ Heap.get?_push_size _ rfl))⟩
  have st₁ : tn 0 h₁ := Tn.keep _ _ _ st fun b _ o e => old b o e
  obtain ⟨W, ⟨m0, w0⟩, turn⟩ := R s2.heap.objs.size I1.fresh
  have Ic := comp_inv (t := s2.toks + ([] : List (Str × Value)).length) T I1 hCle (Nat.le_refl _) hDC f1 hfp old hns₁ hacc
  generalize hXc : X.comp Nc scope cl H2.objs.size s2 H1 fp = Xc at Ic
  have stat : ∀ {H' : Hp}, (∀ b ∈ fp, H' b = none) → ∀ b ∈ fp, FpOk Xc [] H' b := fun {H'} hn b hb => by
    subst hXc
    exact ⟨hn b hb, below b (hfp b hb), (comp_ok T I1 hCle f1 hfp).exfs b hb, .inl hb, fun x c e => (f1 b hb).2.2.2.2.1 x c (T.cells x c e), fun p hp => by cases hp⟩
  have fr0 : ∀ b ∈ fp, upd H1 s2.heap.objs.size (.lst []) b = none := fun b hb => by
    rw [upd_ne (Nat.ne_of_lt (hfp b hb))]
    exact (f1 b hb).1
  have calmc : Xc.calm = true := by subst hXc; exact hc
  have loop : ∀ s₃ : Shared, s₃ = { s2 with heap := h₁, toks := s2.toks + ([] : List (Str × Value)).length } →
      codeAny (model X.prog X.w) X.A (.compLoop (.ListComp elt [⟨target, iter, ifs, 0⟩] scope pos) 0 (.ref it) (.ref s2.heap.objs.size) (compEnvC scope cl H2.objs.size X.env))
        (compPost (model X.prog X.w) X.A X.xe none (EP X pins σ Q) (.ref s2.heap.objs.size) H2.objs.size) s₃ := by
    rintro s₃ rfl
    refine compLoop_go (fun n s' => ∃ i ys σ' H', Inv Xc [] σ' H' s' ∧ tn i s'.heap ∧ (∀ b ∈ fp, H' b = none) ∧ W i n ys σ' H') ?_ m0 ⟨0, [], _, _, Ic, st₁, fr0, w0⟩
    rintro n s3 ⟨i, ys, σ3, H3, I3, st3, fr3, w3⟩
    rcases turn i n ys σ3 H3 w3 with ⟨stop, q⟩ | ⟨go, step⟩
    · subst hXc
      refine thn (Tn.done (X.comp Nc scope cl H2.objs.size s2 H1 fp) rfl rfl rfl hc i [] s3 σ3 H3 _ I3 (stat fr3) st3 stop) fun r s4 ⟨hr, I4⟩ => ?_
      subst hr
      obtain ⟨m4, hn4, _⟩ := id I4.loc
      exact ⟨m4, hn4, fun h' hs' => ⟨.ref s2.heap.objs.size, H3, comp_back I1 hCle f1 I4 hs', rfl, q⟩⟩
    · subst hXc
      refine thn (Tn.item (X.comp Nc scope cl H2.objs.size s2 H1 fp) rfl rfl rfl hc i [] s3 σ3 H3 _ I3 (stat fr3) st3 go) fun r s4 ⟨u, hr, h4⟩ => ?_
      subst hr
      refine thn h4 fun _ s5 ⟨x, H5, I5, r5, y5, st5, fr5⟩ => ?_
      have I5' := I5.pinned (stat fr5) (Tn.obj _ _ st5)
      have back : ∀ {σ7 : St} {H7 : Hp} {s7 : Shared}, Inv (X.comp Nc scope cl H2.objs.size s2 H1 fp) ([] ++ pinsAt fp s5.heap) σ7 H7 s7 → Inv (X.comp Nc scope cl H2.objs.size s2 H1 fp) [] σ7 H7 s7 ∧ tn (i + 1) s7.heap ∧ ∀ b ∈ fp, H7 b = none := fun {σ7 H7 s7} I7 => by
        refine ⟨I7.unpinned, Tn.keep _ _ _ st5 fun b hb o e => (I7.pin (b, o) (List.mem_append_right _ (List.mem_append_right _ (mem_pinsAt hb e)))).1, fun b hb => ?_⟩
        obtain ⟨o, e, d⟩ := Tn.obj _ _ st5 b hb
        exact (I7.pin (b, o) (List.mem_append_right _ (List.mem_append_right _ (mem_pinsAt hb e)))).2.1
      refine thn (hg _ _ _ _ _ s5 σ3 H5 x u _ I5' r5 (step x H5 y5)) fun _ s6 ⟨σ6, H6, I6, q6⟩ => ?_
      refine thnT (ht _ _ _ _ _ s6 σ6 H6 _ I6 q6) fun ok s7 H7 I7 q7 => ?_
      cases ok with
      | false =>
        rw [if_neg Bool.false_ne_true] at q7 ⊢
        obtain ⟨m', hm, w7⟩ := q7
        obtain ⟨J1, J2, J3⟩ := back I7
        exact ⟨m', hm, i + 1, ys, σ6, H7, J1, J2, J3, w7⟩
      | true =>
        rw [if_pos rfl] at q7 ⊢
        refine thnE (he _ _ _ _ _ s7 σ6 H7 _ I7 q7) fun y s8 yv H8 I8 r8 ⟨hp8, hl8, m', hm, w8⟩ => ?_
        refine thn (mt_append _ s8 σ6 H8 (.ref s2.heap.objs.size) [yv] _ [y] (fun v' H' => W (i + 1) m' (ys ++ [yv]) σ6 H') I8 rfl (.cons r8 .nil) ⟨_, ys, yv, rfl, rfl, hp8, hl8, w8⟩) fun v9 s9 ⟨_, H9, I9, _, w9⟩ => ?_
        obtain ⟨J1, J2, J3⟩ := back I9
        exact ⟨m', hm, i + 1, ys ++ [yv], σ6, H9, J1, J2, J3, w9⟩
  exact codeAny_compStart_list (loop _ rfl) (Tn.self _ 0 _ _ _ st₁ (loop _ rfl))
end
end L2
set_option Elab.async false
set_option linter.all false
set_option maxRecDepth 100000
namespace L2
open PySem PySem.Spec PyProof.Rows
section
variable {X : Cx}
def rInsert : V → List V → Hp → VK → Prop := fun x vs H Q => ∃ (l : Addr) (xs : List V) (i : Int) (y : V), x = .ref l ∧ vs = [.int i, y] ∧ H l = some (.lst xs) ∧ 0 ≤ i ∧ i ≤ xs.length ∧ xs.length < sizeLine ∧ Q .non (upd H l (.lst (xs.take i.toNat ++ y :: xs.drop i.toNat)))
theorem mt_insert : MtM X "list.insert" rInsert := by
  intro pins s σ H x vs v us Q I rx rv h
  obtain ⟨l, xs, i, y, rfl, rfl, hH, h0, hk, hz, q⟩ := h
  cases rx
  obtain ⟨u1, u2, rfl, ⟨t, rfl⟩, ru⟩ := rv.two
  obtain ⟨z, its, n, r, hl, e⟩ := I.lstM hH
  have hn := line63
  have hf : Builtin.List.listFitsIndex i = true := by
    unfold Builtin.List.listFitsIndex
    rw [Bool.and_eq_true]
    exact ⟨decide_eq_true (by omega), decide_eq_true (by omega)⟩
  have hf' : ¬ (!Builtin.List.listFitsIndex i) = true := by rw [hf]; decide
  have hzz : its.toArray.size ≤ sizeLine := by rw [List.size_toArray, ← hl]; exact z
  refine call_meets PySem.F.slot_list_insert ⟨_, e, rfl⟩ PySem.F.entry_list_insert (PySem.F.args_list_insert_3 _ _ _) (PySem.AutoSeq1.list_insert_list_int_val_1 l its.toArray n i t u2 hf' hzz) ⟨e, ?_⟩
  refine ⟨.non, _, I.lset (its' := its.take i.toNat ++ u2 :: its.drop i.toNat) hH e ?_ ((r.take i.toNat).append (.cons ru (r.drop i.toNat))) ?_, rfl, q⟩
  · show (its.toArray.extract 0 (if i < 0 then (i + (its.toArray.size : Int)).toNat else min i.toNat its.toArray.size)).push u2 ++ its.toArray.extract (if i < 0 then (i + (its.toArray.size : Int)).toNat else min i.toNat its.toArray.size) = _
    have e0 : (if i < 0 then (i + (its.toArray.size : Int)).toNat else min i.toNat its.toArray.size) = i.toNat := by
      rw [if_neg (by omega), List.size_toArray]
      omega
    rw [e0]
    exact PySem.W.kl_ins_eq its i.toNat u2
  · rw [List.length_append, List.length_cons, List.length_take, List.length_drop]
    omega
theorem op_mulB : OpR X (binaryOp .Mult) (rI (fun i j => IntMulOk i j) fun i j => .int (i * j)) := opI fun i j t u s Q E h q => PyProof.Rows.mul_int q h
end
mutual
inductive Deep (K : PySem.W.Frag) (H : Hp) : V → PyData → Prop
  | non : Deep K H .non .none
  | bl (b : Bool) : Deep K H (.bl b) (.bool b)
  | int (i : Int) : Deep K H (.int i) (.int i)
  | lst {a : Addr} {xs : List V} {ds : List PyData} : SqL K H a xs → DeepAll K H xs ds → Deep K H (.ref a) (.list ds)
  | tup {a : Addr} {xs : List V} {ds : List PyData} : SqT K H a xs → DeepAll K H xs ds → Deep K H (.ref a) (.tuple ds)
inductive DeepAll (K : PySem.W.Frag) (H : Hp) : List V → List PyData → Prop
  | nil : DeepAll K H [] []
  | cons {x : V} {d : PyData} {xs : List V} {ds : List PyData} : Deep K H x d → DeepAll K H xs ds → DeepAll K H (x :: xs) (d :: ds)
end
mutual
theorem Deep.reads {X : Cx} {pins : List (Addr × Obj)} {σ : St} {H : Hp} {s : Shared} (I : Inv X pins σ H s) : ∀ {x : V} {d : PyData} {u : Value}, Deep X.K H x d → RelV x u → (∃ as, Reads s.heap u d as) ∧ d.canLay0 = true
  | _, _, _, .non, r => by cases (show _ = Value.none from r); exact ⟨⟨_, .none⟩, by simp [PyData.canLay0]⟩
  | _, _, _, .bl b, r => by cases (show _ = Value.bool b from r); exact ⟨⟨_, .bool b⟩, by simp [PyData.canLay0]⟩
  | _, _, _, .int i, r => by obtain ⟨t, e⟩ := (show ∃ t, _ = Value.int i t from r); cases e; exact ⟨⟨_, .int i t⟩, by simp [PyData.canLay0]⟩
  | _, _, _, .lst (a := a) h hs, r => by
    cases (show _ = Value.ref a from r)
    obtain ⟨its, rv, ⟨o, n, e, c, _, dd⟩, hz⟩ := I.list h
    obtain ⟨⟨as, ra⟩, cl⟩ := DeepAll.reads I hs rv
    exact ⟨⟨_, .list e c dd (by simpa using ra)⟩, by simpa [PyData.canLay0] using cl⟩
  | _, _, _, .tup (a := a) h hs, r => by
    cases (show _ = Value.ref a from r)
    obtain ⟨its, rv, ⟨o, e, c, n, dd⟩, hz⟩ := I.tuple h
    obtain ⟨⟨as, ra⟩, cl⟩ := DeepAll.reads I hs rv
    exact ⟨⟨_, .tuple e c dd (by simpa using ra)⟩, by simpa [PyData.canLay0] using cl⟩
theorem DeepAll.reads {X : Cx} {pins : List (Addr × Obj)} {σ : St} {H : Hp} {s : Shared} (I : Inv X pins σ H s) : ∀ {xs : List V} {ds : List PyData} {us : List Value}, DeepAll X.K H xs ds → Vals xs us → (∃ as, ReadsAll s.heap us ds as) ∧ PyData.canLayAll0 ds = true
  | _, _, _, .nil, .nil => ⟨⟨_, .nil⟩, by simp [PyData.canLayAll0]⟩
  | _, _, _, .cons h hs, .cons r rs => by
    obtain ⟨⟨as, ra⟩, c1⟩ := Deep.reads I h r
    obtain ⟨⟨bs, rb⟩, c2⟩ := DeepAll.reads I hs rs
    exact ⟨⟨_, .cons ra rb⟩, by simp [PyData.canLayAll0, c1, c2]⟩
end
section
variable {X : Cx}
def rEqD (K : PySem.W.Frag) : R2 := fun x y H Q => ∃ d e, Deep K H x d ∧ Deep K H y e ∧ d.depth ≤ 40 ∧ Q (.bl (PyData.eqv d e)) H
theorem op_eqD (hu : X.A.units + 64 < cLine) : OpR X (compareOp .Eq) (rEqD X.K) := by
  intro pins s σ H x y v u Q I rx ry h
  obtain ⟨d, e, hd, he, hp, q⟩ := h
  obtain ⟨⟨as, ra⟩, ca⟩ := hd.reads I rx
  obtain ⟨⟨bs, rb⟩, cb⟩ := he.reads I ry
  exact PySem.SeqAt.compareEq_reads ra rb ca cb (by omega) ⟨.bl _, H, I, rfl, q⟩
end
end L2
set_option Elab.async false
set_option linter.all false
set_option maxRecDepth 100000
namespace L2
open PySem PySem.Spec PyProof.Rows
structure SubF (P : Program) (w : World) (l : Addr) (ob : Obj) (src : Heap → Array Value → Prop) (at' : Addr → Nat → Heap → Prop) : Prop where
  start : ∀ (A : Around) (s : Shared) (vs : Array Value) (Q : Value → Shared → Prop) (E : Value → Shared → Prop), src s.heap vs → Q (.ref s.heap.objs.size) { s with heap := s.heap.push ob } → wpAny (model P w) A (pyIter (.ref l)) Q E s
  first : ∀ it h, h.get? it = some ob → at' it 0 h
  atK : ∀ it i h h', at' it i h → (∀ o, h.get? it = some o → h'.get? it = some o) → at' it i h'
  srcK : ∀ h h' vs, src h vs → (∀ o, h.get? l = some o → h'.get? l = some o) → src h' vs
  obj : ∀ it i h, at' it i h → ∃ o, h.get? it = some o ∧ ∀ v, o.data ≠ .cell v
  item : ∀ (A : Around) (s : Shared) (it : Addr) (i : Nat) (vs : Array Value) (x : Value) (Q : Value → Shared → Prop) (E : Value → Shared → Prop), at' it i s.heap → src s.heap vs → vs[i]? = some x →
    (∀ h', at' it (i + 1) h' → Heap.SameBut it s.heap h' → Q x { s with heap := h' }) → wpAny (model P w) A (Builtin.SmallTypes.nextOf (.ref it)) Q E s
  fin : ∀ (A : Around) (s : Shared) (it : Addr) (i : Nat) (vs : Array Value) (Q : Value → Shared → Prop) (E : Value → Shared → Prop), A.handled = none → at' it i s.heap → src s.heap vs → vs[i]? = none →
    (∀ h' e, Heap.ExtBut it s.heap h' → (∃ o, h'.get? e = some o ∧ o.cls = .type "StopIteration") → E (.ref e) { s with heap := h' }) → wpAny (model P w) A (Builtin.SmallTypes.nextOf (.ref it)) Q E s
theorem subF_list {P : Program} {w : World} (l : Addr) : SubF P w l { cls := .type "list_iterator", data := .fields #[.ref l, .int 0 0] } (fun h vs => h.IsList l vs) (fun it i h => h.IsListIter it l i) where
  start := fun A s vs Q E hl hq => wpAny_pyIter_list hl hq
  first := fun it h e => ⟨_, e, rfl, rfl⟩
  atK := fun it i h h' x k => x.at k
  srcK := fun h h' vs x k => x.at k
  obj := fun it i h x => by
    obtain ⟨o, ho, _, hd⟩ := x
    exact ⟨o, ho, fun v z => by rw [hd] at z; cases z⟩
  item := fun A s it i vs x Q E ha hs hx hq => wpAny_nextOf_list_item ha hs hx hq
  fin := fun A s it i vs Q E hh ha hs hx hq => wpAny_nextOf_list_end hh ha hs hx hq
section
variable {P : Program} {w : World} {A : Around} {E : Value → Shared → Prop} {s : Shared}
theorem nextOf_tuple_item {it t : Addr} {i : Nat} {vs : Array Value} {x : Value} {Q : Value → Shared → Prop} (hi : s.heap.IsTupleIter it t i) (ht : s.heap.IsTuple t vs) (hx : vs[i]? = some x)
    (hq : ∀ h', h'.IsTupleIter it t (i + 1) → Heap.SameBut it s.heap h' → Q x { s with heap := h' }) : wpAny (model P w) A (Builtin.SmallTypes.nextOf (.ref it)) Q E s := by
  obtain ⟨oi, hoi, hci, hdi⟩ := id hi
  obtain ⟨ot, hot, _, nt, hdt⟩ := ht
  unfold Builtin.SmallTypes.nextOf
  refine wpAny_bind (wpAny_callSpecial?_slot (name := Str.ofString "__next__") hi.typeIs F.slot_tuple_iterator_next (wpAny_call_entry F.slot_tuple_iterator_next hi.typeIs F.entry_tuple_iterator_next ?_ (F.args_tuple_iterator_next_1 _)))
  show wpAny (model P w) _ (field (.ref it) 0 >>= _) _ _ s
  refine wpAny_bind (wpAny_field hoi hdi (x := .ref t) rfl ?_)
  show wpAny (model P w) _ (if (Value.ref t == Value.none) = true then _ else _) _ _ s
  rw [if_neg (by exact Bool.false_ne_true)]
  show wpAny (model P w) _ (field (.ref it) 1 >>= _) _ _ s
  refine wpAny_bind (wpAny_field hoi hdi (x := .int i 0) rfl ?_)
  show wpAny (model P w) _ (seqItems? (.ref t) >>= _) _ _ s
  refine wpAny_bind (wpAny_seqItems hot hdt ?_)
  simp only [Int.toNat_natCast, hx]
  refine wpAny_bind (wpAny_setField hoi hdi (by simp) (wpAny_pure ⟨x, rfl, wpAny_pure (hq _ ?_ (Heap.SameBut.update ..))⟩))
  exact ⟨_, Heap.get?_update_self _ hoi (Obj.isFreed_of_fields (Obj.data_mapFields hdi _)), (Obj.cls_mapFields ..).trans hci, by rw [Obj.data_mapFields hdi]; simp [rawInt]⟩
theorem nextOf_tuple_end {it t : Addr} {i : Nat} {vs : Array Value} {Q : Value → Shared → Prop} (hh : A.handled = none) (hi : s.heap.IsTupleIter it t i) (ht : s.heap.IsTuple t vs) (hx : vs[i]? = none)
    (hE : ∀ h' e, Heap.ExtBut it s.heap h' → (∃ o, h'.get? e = some o ∧ o.cls = .type "StopIteration") → E (.ref e) { s with heap := h' }) : wpAny (model P w) A (Builtin.SmallTypes.nextOf (.ref it)) Q E s := by
  obtain ⟨oi, hoi, hci, hdi⟩ := id hi
  obtain ⟨ot, hot, _, nt, hdt⟩ := ht
  unfold Builtin.SmallTypes.nextOf
  refine wpAny_bind (wpAny_callSpecial?_slot (name := Str.ofString "__next__") hi.typeIs F.slot_tuple_iterator_next (wpAny_call_entry F.slot_tuple_iterator_next hi.typeIs F.entry_tuple_iterator_next ?_ (F.args_tuple_iterator_next_1 _)))
  show wpAny (model P w) _ (field (.ref it) 0 >>= _) _ _ s
  refine wpAny_bind (wpAny_field hoi hdi (x := .ref t) rfl ?_)
  show wpAny (model P w) _ (if (Value.ref t == Value.none) = true then _ else _) _ _ s
  rw [if_neg (by exact Bool.false_ne_true)]
  show wpAny (model P w) _ (field (.ref it) 1 >>= _) _ _ s
  refine wpAny_bind (wpAny_field hoi hdi (x := .int i 0) rfl ?_)
  show wpAny (model P w) _ (seqItems? (.ref t) >>= _) _ _ s
  refine wpAny_bind (wpAny_seqItems hot hdt ?_)
  simp only [Int.toNat_natCast, hx]
  refine wpAny_bind (wpAny_rule (wpAny_bind (wpAny_setField hoi hdi (by simp) ?_)))
  show wpAny (model P w) _ (newExc (.type "StopIteration") [] >>= _) _ _ _
  refine wpAny_bind ?_
  simp only [newExc, newTuple]
  refine wpAny_bind (wpAny_newObj_type ?_ (by size_fits))
  refine wpAny_bind (m := firstArgMember _ _) (wpAny_of_eq (a := Value.none) (by first | rfl | (simp only [firstArgMember]; rfl)) ?_)
  refine wpAny_newObj_type ?_ (by size_fits)
  simp only [raiseNew]
  refine wpAny_bind (wpAny_handled ?_)
  first | rw [show A.in1.handled = none from hh] | rw [hh]
  refine wpAny_bind (wpAny_pure (wpAny_throw ?_))
  exact hE _ _ (((Heap.SameBut.update ..).extBut.push _).push _) ⟨_, Heap.get?_push_size _ rfl, rfl⟩
end
theorem subF_tup {P : Program} {w : World} (l : Addr) : SubF P w l { cls := .type "tuple_iterator", data := .fields #[.ref l, .int 0 0] } (fun h vs => h.IsTuple l vs) (fun it i h => h.IsTupleIter it l i) where
  start := fun A s vs Q E hl hq => wpAny_pyIter_tuple hl hq
  first := fun it h e => ⟨_, e, rfl, rfl⟩
  atK := fun it i h h' x k => let ⟨o, ho, r⟩ := x; ⟨o, k o ho, r⟩
  srcK := fun h h' vs x k => let ⟨o, ho, r⟩ := x; ⟨o, k o ho, r⟩
  obj := fun it i h x => by
    obtain ⟨o, ho, _, hd⟩ := x
    exact ⟨o, ho, fun v z => by rw [hd] at z; cases z⟩
  item := fun A s it i vs x Q E ha hs hx hq => nextOf_tuple_item ha hs hx hq
  fin := fun A s it i vs Q E hh ha hs hx hq => nextOf_tuple_end hh ha hs hx hq
end L2
set_option Elab.async false
set_option linter.all false
set_option maxRecDepth 100000
namespace L2
open PySem PySem.Spec PyProof.Rows
structure ZAp (z TI TO i1 i2 l1 l2 : Addr) : Prop where
  a1 : TI ≠ z
  a2 : TO ≠ z
  a3 : i1 ≠ z
  a4 : i2 ≠ z
  a5 : TI ≠ TO
  a6 : TI ≠ i1
  a7 : TI ≠ i2
  a8 : TO ≠ i1
  a9 : TO ≠ i2
  a0 : i1 ≠ i2
  b1 : l1 ≠ z ∧ l1 ≠ TO ∧ l1 ≠ i1 ∧ l1 ≠ i2
  b2 : l2 ≠ z ∧ l2 ≠ TO ∧ l2 ≠ i1 ∧ l2 ≠ i2
section
variable {P : Program} {w : World} {A : Around} {E : Value → Shared → Prop} {s : Shared} {l1 l2 : Addr} {ob1 ob2 : Obj} {src1 src2 : Heap → Array Value → Prop} {at1 at2 : Addr → Nat → Heap → Prop}
theorem zipTurn_item (S1 : SubF P w l1 ob1 src1 at1) (S2 : SubF P w l2 ob2 src2 at2) {z TI TO i1 i2 : Addr} {k1 k2 : Nat} {xs ys : Array Value} {x y a b : Value} {Q : Value → Shared → Prop} (D : ZAp z TI TO i1 i2 l1 l2)
    (Hz : IsZip s.heap z TI TO .none) (HI : IsPair s.heap TI (.ref i1) (.ref i2)) (HO' : IsPair s.heap TO a b) (p1 : at1 i1 k1 s.heap) (p2 : at2 i2 k2 s.heap) (q1 : src1 s.heap xs) (q2 : src2 s.heap ys) (hx : xs[k1]? = some x) (hy : ys[k2]? = some y)
    (hQ : ∀ h', IsZip h' z TI TO (rawInt s.heap.objs.size) → IsPair h' TO x y → at1 i1 (k1 + 1) h' → at2 i2 (k2 + 1) h' → IsPair h' s.heap.objs.size x y → h'.objs.size = s.heap.objs.size + 1 →
      (∀ c o, c ≠ z → c ≠ TO → c ≠ i1 → c ≠ i2 → s.heap.get? c = some o → h'.get? c = some o) → Q (.ref s.heap.objs.size) { s with heap := h' }) :
    wpAny (model P w) A (Builtin.«zip.__next__» ⟨[.ref z], []⟩) (fun fn s' => ∃ v, fn = .done (.ret v) ∧ Q v s') E s := by
  show wpAny (model P w) _ (field (.ref z) 2 >>= _) _ _ _
  refine wpAny_bind (wpAny_field Hz rfl (x := .bool false) rfl ?_)
  show wpAny (model P w) _ (field (.ref z) 3 >>= _) _ _ _
  refine wpAny_bind (wpAny_field Hz rfl (x := .ref TI) rfl ?_)
  refine wpAny_bind (wpAny_seqItems HI rfl ?_)
  show wpAny (model P w) _ (Builtin.SmallTypes.ownedTupleIsFree (.ref z) >>= _) _ _ _
  refine wpAny_bind ?_
  unfold Builtin.SmallTypes.ownedTupleIsFree
  refine wpAny_bind (wpAny_field Hz rfl (x := .none) rfl (wpAny_pure ?_))
  simp only [if_true]
  refine wpAny_bind (wpAny_rule ?_)
  refine wpAny_bind (wpAny_field Hz rfl (x := .ref TO) rfl ?_)
  refine wpAny_bind (wpAny_setField_rec Hz (by simp) fun g1 z1 e1 => ?_)
  replace z1 : IsZip g1 z TI TO .ellipsis := z1
  refine wpAny_bind ?_
  simp only [List.zipIdx_cons, List.zipIdx_nil, List.forIn_cons, List.forIn_nil]
  refine wpAny_bind (wpAny_bind (wpAny_onRaise ?_))
  show wpAny (model P w) _ (Builtin.SmallTypes.nextOf (.ref i1) >>= _) _ _ _
  refine wpAny_bind (S1.item _ { s with heap := g1 } i1 k1 xs x _ _ (S1.atK _ _ _ _ p1 fun o e => e1.extBut _ _ D.a3 e) (S1.srcK _ _ _ q1 fun o e => e1.extBut _ _ D.b1.1 e) hx fun g2 p1b e2 => wpAny_pure ?_)
  have o2 : IsPair g2 TO a b := e2.extBut _ _ D.a8 (e1.extBut _ _ D.a2 HO')
  refine wpAny_bind (wpAny_seqItems o2 rfl ?_)
  refine wpAny_bind (wpAny_updateSeq_pair o2 fun g3 o3 e3 => ?_)
  replace o3 : IsPair g3 TO x b := o3
  refine wpAny_bind (wpAny_letGo (wpAny_pure ?_))
  refine wpAny_bind (wpAny_bind (wpAny_onRaise ?_))
  show wpAny (model P w) _ (Builtin.SmallTypes.nextOf (.ref i2) >>= _) _ _ _
  refine wpAny_bind (S2.item _ { s with heap := g3 } i2 k2 ys y _ _ (S2.atK _ _ _ _ p2 fun o e => e3.extBut _ _ D.a9.symm (e2.extBut _ _ D.a0.symm (e1.extBut _ _ D.a4 e))) (S2.srcK _ _ _ q2 fun o e => e3.extBut _ _ D.b2.2.1 (e2.extBut _ _ D.b2.2.2.1 (e1.extBut _ _ D.b2.1 e))) hy fun g4 p2b e4 => wpAny_pure ?_)
  have o4 : IsPair g4 TO x b := e4.extBut _ _ D.a9 o3
  refine wpAny_bind (wpAny_seqItems o4 rfl ?_)
  refine wpAny_bind (wpAny_updateSeq_pair o4 fun g5 o5 e5 => ?_)
  replace o5 : IsPair g5 TO x y := o5
  refine wpAny_bind (wpAny_letGo (wpAny_pure (wpAny_pure ?_)))
  refine wpAny_bind (wpAny_seqItems o5 rfl ?_)
  refine wpAny_bind (wpAny_newTuple ?_)
  have sz : g5.objs.size = s.heap.objs.size := by rw [e5.1, e4.1, e3.1, e2.1, e1.1]
  have z5 : IsZip g5 z TI TO .ellipsis := e5.extBut _ _ D.a2.symm (e4.extBut _ _ D.a4.symm (e3.extBut _ _ D.a2.symm (e2.extBut _ _ D.a3.symm z1)))
  have k5 : ∀ c o, c ≠ z → c ≠ TO → c ≠ i1 → c ≠ i2 → s.heap.get? c = some o → g5.get? c = some o := fun c o c1 c2 c3 c4 e =>
    e5.extBut _ _ c2 (e4.extBut _ _ c4 (e3.extBut _ _ c2 (e2.extBut _ _ c3 (e1.extBut _ _ c1 e))))
  have p15 : at1 i1 (k1 + 1) g5 := S1.atK _ _ _ _ p1b fun o e => e5.extBut _ _ D.a8.symm (e4.extBut _ _ D.a0 (e3.extBut _ _ D.a8.symm e))
  have p25 : at2 i2 (k2 + 1) g5 := S2.atK _ _ _ _ p2b fun o e => e5.extBut _ _ D.a9.symm e
  have zlt : z < g5.objs.size := Heap.lt_size z5
  show wpAny (model P w) _ (Builtin.SmallTypes.ownedTupleHandOut (.ref z) (.ref g5.objs.size) >>= _) _ _ _
  refine wpAny_bind ?_
  unfold Builtin.SmallTypes.ownedTupleHandOut
  have z6 : IsZip (g5.push { cls := .type "tuple", data := .seq #[x, y] }) z TI TO .ellipsis := Heap.get?_push_of_some _ z5
  refine wpAny_bind (wpAny_setField_rec z6 (by simp) fun g7 z7 e7 => ?_)
  replace z7 : IsZip g7 z TI TO (rawInt g5.objs.size) := z7
  refine wpAny_setField_rec z7 (by simp) fun g8 z8 e8 => ?_
  replace z8 : IsZip g8 z TI TO (rawInt g5.objs.size) := z8
  have up : ∀ c o, c ≠ z → g5.get? c = some o → g8.get? c = some o := fun c o c1 e => e8.extBut _ _ c1 (e7.extBut _ _ c1 (Heap.get?_push_of_some _ e))
  have t8 : IsPair g8 g5.objs.size x y := e8.extBut _ _ (Nat.ne_of_gt zlt) (e7.extBut _ _ (Nat.ne_of_gt zlt) (Heap.get?_push_size _ rfl))
  have s8 : g8.objs.size = g5.objs.size + 1 := by rw [e8.1, e7.1, Heap.size_push]
  rw [sz] at z8 t8 s8
  refine wpAny_pure ⟨_, rfl, ?_⟩
  show Q (.ref g5.objs.size) _
  rw [sz]
  exact hQ g8 z8 (up _ _ D.a2 o5) (S1.atK _ _ _ _ p15 fun o e => up _ o D.a3 e) (S2.atK _ _ _ _ p25 fun o e => up _ o D.a4 e) t8 s8 fun c o c1 c2 c3 c4 e => up c o c1 (k5 c o c1 c2 c3 c4 e)
theorem zipTurn_end (S1 : SubF P w l1 ob1 src1 at1) (S2 : SubF P w l2 ob2 src2 at2) {z TI TO i1 i2 : Addr} {k1 k2 : Nat} {xs ys : Array Value} {a b : Value} {Q : Fin → Shared → Prop} (hh : A.handled = none) (D : ZAp z TI TO i1 i2 l1 l2)
    (Hz : IsZip s.heap z TI TO .none) (HI : IsPair s.heap TI (.ref i1) (.ref i2)) (HO' : IsPair s.heap TO a b) (p1 : at1 i1 k1 s.heap) (p2 : at2 i2 k2 s.heap) (q1 : src1 s.heap xs) (q2 : src2 s.heap ys) (hend : xs[k1]? = none ∨ ys[k2]? = none)
    (hE : ∀ h' e, (∀ c o, c ≠ z → c ≠ TO → c ≠ i1 → c ≠ i2 → s.heap.get? c = some o → h'.get? c = some o) → (∃ o, h'.get? e = some o ∧ o.cls = .type "StopIteration") → E (.ref e) { s with heap := h' }) :
    wpAny (model P w) A (Builtin.«zip.__next__» ⟨[.ref z], []⟩) Q E s := by
  show wpAny (model P w) _ (field (.ref z) 2 >>= _) _ _ _
  refine wpAny_bind (wpAny_field Hz rfl (x := .bool false) rfl ?_)
  show wpAny (model P w) _ (field (.ref z) 3 >>= _) _ _ _
  refine wpAny_bind (wpAny_field Hz rfl (x := .ref TI) rfl ?_)
  refine wpAny_bind (wpAny_seqItems HI rfl ?_)
  show wpAny (model P w) _ (Builtin.SmallTypes.ownedTupleIsFree (.ref z) >>= _) _ _ _
  refine wpAny_bind ?_
  unfold Builtin.SmallTypes.ownedTupleIsFree
  refine wpAny_bind (wpAny_field Hz rfl (x := .none) rfl (wpAny_pure ?_))
  simp only [if_true]
  refine wpAny_bind (wpAny_rule ?_)
  refine wpAny_bind (wpAny_field Hz rfl (x := .ref TO) rfl ?_)
  refine wpAny_bind (wpAny_setField_rec Hz (by simp) fun g1 z1 e1 => ?_)
  replace z1 : IsZip g1 z TI TO .ellipsis := z1
  refine wpAny_bind ?_
  simp only [List.zipIdx_cons, List.zipIdx_nil, List.forIn_cons, List.forIn_nil]
  refine wpAny_bind (wpAny_bind (wpAny_onRaise ?_))
  show wpAny (model P w) _ (Builtin.SmallTypes.nextOf (.ref i1) >>= _) _ _ _
  have p1a : at1 i1 k1 g1 := S1.atK _ _ _ _ p1 fun o e => e1.extBut _ _ D.a3 e
  have q1a : src1 g1 xs := S1.srcK _ _ _ q1 fun o e => e1.extBut _ _ D.b1.1 e
  cases hx : xs[k1]? with
  | none =>
    refine wpAny_bind (S1.fin _ { s with heap := g1 } i1 k1 xs _ _ hh p1a q1a hx fun g2 e e2 he => ?_)
    obtain ⟨oe, hoe, hce⟩ := he
    have z2 : IsZip g2 z TI TO .ellipsis := e2 _ _ D.a3.symm z1
    have ez : e ≠ z := fun t => by subst t; rw [z2] at hoe; cases hoe; simp at hce
    refine wpAny_setField_rec z2 (by simp) fun g3 _ e3 => hE g3 e (fun c o c1 _ c3 _ t => e3.extBut _ _ c1 (e2 _ _ c3 (e1.extBut _ _ c1 t))) ⟨oe, e3.extBut _ _ ez hoe, hce⟩
  | some x =>
    have hy : ys[k2]? = none := by
      rcases hend with h | h
      · rw [hx] at h; cases h
      · exact h
    refine wpAny_bind (S1.item _ { s with heap := g1 } i1 k1 xs x _ _ p1a q1a hx fun g2 p1b e2 => wpAny_pure ?_)
    have o2 : IsPair g2 TO a b := e2.extBut _ _ D.a8 (e1.extBut _ _ D.a2 HO')
    refine wpAny_bind (wpAny_seqItems o2 rfl ?_)
    refine wpAny_bind (wpAny_updateSeq_pair o2 fun g3 o3 e3 => ?_)
    refine wpAny_bind (wpAny_letGo (wpAny_pure ?_))
    refine wpAny_bind (wpAny_bind (wpAny_onRaise ?_))
    show wpAny (model P w) _ (Builtin.SmallTypes.nextOf (.ref i2) >>= _) _ _ _
    refine wpAny_bind (S2.fin _ { s with heap := g3 } i2 k2 ys _ _ hh (S2.atK _ _ _ _ p2 fun o e => e3.extBut _ _ D.a9.symm (e2.extBut _ _ D.a0.symm (e1.extBut _ _ D.a4 e))) (S2.srcK _ _ _ q2 fun o e => e3.extBut _ _ D.b2.2.1 (e2.extBut _ _ D.b2.2.2.1 (e1.extBut _ _ D.b2.1 e))) hy fun g4 e e4 he => ?_)
    obtain ⟨oe, hoe, hce⟩ := he
    have z4 : IsZip g4 z TI TO .ellipsis := e4 _ _ D.a4.symm (e3.extBut _ _ D.a2.symm (e2.extBut _ _ D.a3.symm z1))
    have ez : e ≠ z := fun t => by subst t; rw [z4] at hoe; cases hoe; simp at hce
    refine wpAny_setField_rec z4 (by simp) fun g5 _ e5 => hE g5 e (fun c o c1 c2 c3 c4 t => e5.extBut _ _ c1 (e4 _ _ c4 (e3.extBut _ _ c2 (e2.extBut _ _ c3 (e1.extBut _ _ c1 t))))) ⟨oe, e5.extBut _ _ ez hoe, hce⟩
abbrev zp1 (h : Heap) (ob1 ob2 : Obj) : Heap := (h.push ob1).push ob2
abbrev zp2 (h : Heap) (ob1 ob2 : Obj) : Heap := (zp1 h ob1 ob2).push { cls := .type "tuple", data := .seq #[.ref h.objs.size, .ref (h.push ob1).objs.size] }
abbrev zp3 (h : Heap) (ob1 ob2 : Obj) : Heap := (zp2 h ob1 ob2).push { cls := .type "tuple", data := .seq #[.none, .none] }
abbrev zp4 (h : Heap) (ob1 ob2 : Obj) : Heap := (zp3 h ob1 ob2).push { cls := .type "zip", data := .fields #[.none, .bool false, .bool false, .ref (zp1 h ob1 ob2).objs.size, .ref (zp2 h ob1 ob2).objs.size] }
theorem zip_new_meets (S1 : ∀ P w, SubF P w l1 ob1 src1 at1) (S2 : ∀ P w, SubF P w l2 ob2 src2 at2) (ne : ∀ h vs, src2 h vs → ∃ o, h.get? l2 = some o) (xs ys : Array Value) :
    Meets (Builtin.«zip.__new__» ⟨[.type "zip", .ref l1, .ref l2], []⟩) (fun _ R s => src1 s.heap xs ∧ src2 s.heap ys ∧ R (.ok (.ret (.ref (zp3 s.heap ob1 ob2).objs.size))) { s with heap := zp4 s.heap ob1 ob2 }) :=
  .of_wp fun prog w A R s hyp => by
    obtain ⟨hp, g, d, tk, os⟩ := s
    obtain ⟨q1, q2, r⟩ := hyp
    have zsub := sub_zip
    have B1 : src1 (Shared.heap ⟨hp, g, d, tk, os⟩) xs := q1
    have B2 : src2 (Shared.heap ⟨hp.push ob1, g, d, tk, os⟩) ys := (S2 prog w).srcK _ _ _ q2 fun o e => Heap.get?_push_of_some _ e
    wp_walk using ((S1 prog w).start _ _ _ _ _ B1), ((S2 prog w).start _ _ _ _ _ B2)
    exact ⟨_, rfl, r⟩
theorem zip_made (S1 : ∀ P w, SubF P w l1 ob1 src1 at1) (S2 : ∀ P w, SubF P w l2 ob2 src2 at2) (ne : ∀ h vs, src2 h vs → ∃ o, h.get? l2 = some o) {xs ys : Array Value} {Q : Value → Shared → Prop} (q1 : src1 s.heap xs) (q2 : src2 s.heap ys)
    (h : ∀ h', IsZip h' (s.heap.objs.size + 4) (s.heap.objs.size + 2) (s.heap.objs.size + 3) .none → IsPair h' (s.heap.objs.size + 2) (.ref s.heap.objs.size) (.ref (s.heap.objs.size + 1)) →
      IsPair h' (s.heap.objs.size + 3) .none .none → at1 s.heap.objs.size 0 h' → at2 (s.heap.objs.size + 1) 0 h' →
      (∀ c o, s.heap.get? c = some o → h'.get? c = some o) → Q (.ref (s.heap.objs.size + 4)) { s with heap := h' }) (f1 : ob1.isFreed = false) (f2 : ob2.isFreed = false) :
    wpAny (model P w) A (call (.type "zip") [.ref l1, .ref l2]) Q E s := by
  refine callType_new F.called_zip (by decide) (F.typeCall_zip_2 _ _) (F.newCall_zip_2 _ _) (fun obj => F.args_object_init_3 obj _ _) F.entry_zip_new (zip_new_meets S1 S2 ne xs ys) ⟨q1, q2, ?_⟩
  have n0 : (s.heap.push ob1).objs.size = s.heap.objs.size + 1 := Heap.size_push ..
  have n1 : (zp1 s.heap ob1 ob2).objs.size = s.heap.objs.size + 2 := by rw [Heap.size_push, n0]
  have n2 : (zp2 s.heap ob1 ob2).objs.size = s.heap.objs.size + 3 := by rw [Heap.size_push, n1]
  have n3 : (zp3 s.heap ob1 ob2).objs.size = s.heap.objs.size + 4 := by rw [Heap.size_push, n2]
  have c5 : (zp4 s.heap ob1 ob2).get? (zp3 s.heap ob1 ob2).objs.size = some _ := Heap.get?_push_size _ rfl
  have c4 : (zp4 s.heap ob1 ob2).get? (zp2 s.heap ob1 ob2).objs.size = some _ := Heap.get?_push_of_some _ (Heap.get?_push_size _ rfl)
  have c3 : (zp4 s.heap ob1 ob2).get? (zp1 s.heap ob1 ob2).objs.size = some _ := Heap.get?_push_of_some _ (Heap.get?_push_of_some _ (Heap.get?_push_size _ rfl))
  have c2 : (zp4 s.heap ob1 ob2).get? (s.heap.push ob1).objs.size = some ob2 := Heap.get?_push_of_some _ (Heap.get?_push_of_some _ (Heap.get?_push_of_some _ (Heap.get?_push_size _ f2)))
  have c1 : (zp4 s.heap ob1 ob2).get? s.heap.objs.size = some ob1 := Heap.get?_push_of_some _ (Heap.get?_push_of_some _ (Heap.get?_push_of_some _ (Heap.get?_push_of_some _ (Heap.get?_push_size _ f1))))
  show _ ∧ _
  rw [n1, n2, n3] at c5
  rw [n0, n1] at c3
  rw [n2] at c4
  rw [n0] at c2
  rw [n3]
  exact ⟨⟨_, c5, rfl⟩, h _ c5 c3 c4 ((S1 P w).first _ _ c1) ((S2 P w).first _ _ c2) fun c o e => Heap.get?_push_of_some _ (Heap.get?_push_of_some _ (Heap.get?_push_of_some _ (Heap.get?_push_of_some _ (Heap.get?_push_of_some _ e))))⟩
end
def SqX (K : PySem.W.Frag) : Bool → Hp → Addr → List V → Prop
  | true, H, a, xs => SqL K H a xs
  | false, H, a, xs => SqT K H a xs
def Itz (K : PySem.W.Frag) (c d : Bool) (a b : Addr) : It :=
  ⟨fun i H => ∃ xs ys x y, SqX K c H a xs ∧ SqX K d H b ys ∧ xs[i]? = some x ∧ ys[i]? = some y,
   fun i H v H' => ∃ p x y, H p = none ∧ v = .ref p ∧ H' = upd H p (.tup [x, y]) ∧ (∀ xs, SqX K c H a xs → xs[i]? = some x) ∧ ∀ ys, SqX K d H b ys → ys[i]? = some y,
   fun i H => ∃ xs ys, SqX K c H a xs ∧ SqX K d H b ys ∧ (xs.length ≤ i ∨ ys.length ≤ i)⟩
def zObj (a : Addr) : Bool → Obj
  | true => { cls := .type "list_iterator", data := .fields #[.ref a, .int 0 0] }
  | false => { cls := .type "tuple_iterator", data := .fields #[.ref a, .int 0 0] }
def zSrc (a : Addr) : Bool → Heap → Array Value → Prop
  | true, h, vs => h.IsList a vs
  | false, h, vs => h.IsTuple a vs
def zAt (a : Addr) : Bool → Addr → Nat → Heap → Prop
  | true, it, i, h => h.IsListIter it a i
  | false, it, i, h => h.IsTupleIter it a i
theorem zSub (a : Addr) (c : Bool) (P : Program) (w : World) : SubF P w a (zObj a c) (zSrc a c) (zAt a c) := by
  cases c
  · exact subF_tup a
  · exact subF_list a
theorem zObj_free (a : Addr) (c : Bool) : (zObj a c).isFreed = false := by cases c <;> rfl
theorem zSrc_there (a : Addr) (c : Bool) (h : Heap) (vs : Array Value) (e : zSrc a c h vs) : ∃ o, h.get? a = some o := by
  cases c
  · obtain ⟨o, ho, _⟩ := e; exact ⟨o, ho⟩
  · obtain ⟨o, ho, _⟩ := e; exact ⟨o, ho⟩
theorem Inv.sqX {X : Cx} {pins : List (Addr × Obj)} {σ : St} {H : Hp} {s : Shared} {c : Bool} {a : Addr} {xs : List V} (I : Inv X pins σ H s) (h : SqX X.K c H a xs) : ∃ its : List Value, Vals xs its ∧ zSrc a c s.heap its.toArray := by
  cases c with
  | true =>
    obtain ⟨its, r, pl, _⟩ := I.list h
    exact ⟨its, r, pl.isList⟩
  | false =>
    obtain ⟨its, r, ⟨o, ho, hc, n, hd⟩, _⟩ := I.tuple h
    exact ⟨its, r, ⟨o, ho, hc, n, hd⟩⟩
theorem Inv.sqX_inj {X : Cx} {pins : List (Addr × Obj)} {σ : St} {H : Hp} {s : Shared} {c : Bool} {a : Addr} {xs ys : List V} (I : Inv X pins σ H s) (h : SqX X.K c H a xs) (h' : SqX X.K c H a ys) : xs = ys := by
  cases c with
  | true => exact I.list_inj h h'
  | false => exact I.tuple_inj h h'
theorem turn_zip {P : Program} {w : World} {K : PySem.W.Frag} {elts : List Expr} {x1} {tpos : Pos} (c d : Bool) (a b z TI TO i1 i2 : Addr) (D : ZAp z TI TO i1 i2 a b) :
    Turn P w K (.Tuple elts x1 tpos) (Itz K c d a b) [z, TI, TO, i1, i2] z (fun i h => IsZip h z TI TO .none ∧ IsPair h TI (.ref i1) (.ref i2) ∧ (∃ u v, IsPair h TO u v) ∧ zAt a c i1 i h ∧ zAt b d i2 i h) where
  mem := by simp
  obj := fun i h t e he => by
    obtain ⟨t1, t2, ⟨u, v, t3⟩, t4, t5⟩ := t
    simp only [List.mem_cons, List.mem_nil_iff, or_false] at he
    rcases he with rfl | rfl | rfl | rfl | rfl
    · exact ⟨_, t1, fun v z => by cases z⟩
    · exact ⟨_, t2, fun v z => by cases z⟩
    · exact ⟨_, t3, fun v z => by cases z⟩
    · exact (zSub a c P w).obj _ _ _ t4
    · exact (zSub b d P w).obj _ _ _ t5
  keep := fun i h h' t k => by
    obtain ⟨t1, t2, ⟨u, v, t3⟩, t4, t5⟩ := t
    exact ⟨k z (by simp) _ t1, k TI (by simp) _ t2, ⟨u, v, k TO (by simp) _ t3⟩, (zSub a c P w).atK _ _ _ _ t4 fun o e => k i1 (by simp) o e, (zSub b d P w).atK _ _ _ _ t5 fun o e => k i2 (by simp) o e⟩
  item := fun X e1 e2 e3 hc i pins s σ H E I f t g => by
    subst e1 e2 e3
    obtain ⟨t1, t2, ⟨u, v, t3⟩, t4, t5⟩ := t
    obtain ⟨xs, ys, x, y, s1, s2, hx, hy⟩ := g
    obtain ⟨us, r1, q1⟩ := I.sqX s1
    obtain ⟨vs, r2, q2⟩ := I.sqX s2
    obtain ⟨xu, hxu, rx⟩ := r1.get hx
    obtain ⟨yu, hyu, ry⟩ := r2.get hy
    have hT : s.TypeIs (.ref z) "zip" := ⟨_, t1, rfl⟩
    unfold pyNext
    refine wpAny_bind (wpAny_attempt (wpAny_callSpecial?_slot (name := Str.ofString "__next__") hT F.slot_zip_next (wpAny_call_entry F.slot_zip_next hT F.entry_zip_next
      (zipTurn_item (zSub a c _ _) (zSub b d _ _) D t1 t2 t3 t4 t5 q1 q2 (x := xu) (y := yu) (by simpa using hxu) (by simpa using hyu) fun h' w1 w2 w3 w4 w5 w6 w7 => wpAny_pure ?_) (F.args_zip_next_1 _))))
    refine ⟨_, rfl, wpAny_letOwnedTupleGo_zip w1 fun h2 n1 n2 => ?_⟩
    have fz : ∀ q ∈ [z, TI, TO, i1, i2], FpOk X pins H q := f
    have lt0 : s.heap.objs.size ≠ z := Nat.ne_of_gt (Heap.lt_size t1)
    have new : IsPair h2 s.heap.objs.size xu yu := n2.extBut _ _ lt0 w5
    have kp : ∀ q o, q ∉ [z, TI, TO, i1, i2] → s.heap.get? q = some o → h2.get? q = some o := fun q o hq e => by
      simp only [List.mem_cons, List.mem_nil_iff, or_false, not_or] at hq
      exact n2.extBut _ _ hq.1 (w7 q o hq.1 hq.2.2.1 hq.2.2.2.1 hq.2.2.2.2 e)
    have kTI : h2.get? TI = some _ := n2.extBut _ _ D.a1 (w7 TI _ D.a1 D.a5 D.a6 D.a7 t2)
    have Hn : ∀ q u, H q = some u → q ∉ [z, TI, TO, i1, i2] := fun q u e hq => by rw [(fz q hq).1] at e; cases e
    -- the iterator's own objects have turned; the rest is kept
    have I2 : Inv X pins σ H { s with heap := h2 } := by
      refine I.step (g' := s.gens) (d' := s.drawn) (t' := s.toks) (ch := [z, TI, TO, i1, i2]) (fun q hq => ⟨(fz q hq).2.2.2.1, (fz q hq).2.1, (fz q hq).2.2.2.2.1, (fz q hq).2.2.2.2.2⟩) (fun q o _ _ hq e _ => kp q o hq e) (fun q o _ _ hq e _ => ⟨o.slots, kp q o hq e⟩) (fun _ _ _ _ n => n)
        (fun q o hq e => ⟨o, kp q o hq e⟩) (fun _ _ e => e) (fun _ _ _ e => e) (fun q ps e => ⟨#[], by rw [e]; simp⟩) (fun m hm => ?_) (fun q u e => ?_) I.bare
      · obtain ⟨o, es, ep, ho, r⟩ := hm
        exact ⟨o, es, ep, kp _ o (fun hq => (fz _ hq).2.1 rfl) ho, r⟩
      · refine (I.hok q u e).stay (fun q' v hq' e' => kp q' v ?_ e') (fun _ e' => e') fun _ _ e' => e'
        rcases hq' with rfl | hq'
        · exact Hn _ u e
        · exact Hn _ _ hq'
    have nH : H s.heap.objs.size = none := I.fresh
    have I3 : Inv X pins σ (upd H s.heap.objs.size (.tup [x, y])) { s with heap := h2 } := by
      refine ⟨I2.ok, I2.os, I2.bare, ?_, I2.loc, I2.cell, ?_, fun n c e => ?_, fun p hp => ?_, fun q u e => ?_, I2.len⟩
      · refine ⟨I2.base.keep, I2.base.slot, fun q o e n hx => ?_, I2.base.there, fun q xs e => ?_, fun q o u e => ?_, fun q ps e => ?_⟩
        · have lt : q < X.s₀.heap.objs.size := Heap.lt_size e
          rw [upd_ne (Nat.ne_of_lt (Nat.lt_of_lt_of_le lt I.sz))]
          exact I2.base.free q o e n hx
        · have e' := I2.base.tups q xs e
          rw [upd_ne (fun z => by rw [z, nH] at e'; cases e')]
          exact e'
        · have e' := I2.base.frzs q o u e
          rw [upd_ne (fun z => by rw [z, nH] at e'; cases e')]
          exact e'
        · obtain ⟨more, e'⟩ := I2.base.tbls q ps e
          exact ⟨more, by rw [upd_ne (fun z => by rw [z, nH] at e'; cases e')]; exact e'⟩
      · rw [upd_ne (Nat.ne_of_lt I.lt)]
        exact I2.free
      · obtain ⟨vv, o, ho, _⟩ := I.cell n c e
        rw [upd_ne (Nat.ne_of_lt (Heap.lt_size ho))]
        exact I2.freeC n c e
      · obtain ⟨k1, k2, k3⟩ := I.pin p hp
        rw [upd_ne (Nat.ne_of_lt (Heap.lt_size k1))]
        exact I2.pin p hp
      · by_cases hq : q = s.heap.objs.size
        · subst hq
          rw [upd_same] at e; cases e
          exact ⟨by show 2 ≤ sizeLine; decide, [xu, yu], .cons rx (.cons ry .nil), _, new, rfl, _, rfl⟩
        · rw [upd_ne hq] at e
          refine (I2.hok q u e).stay (fun _ _ _ e' => e') (fun q' e' => ?_) fun q' xs e' => ?_
          · rw [upd_ne (fun z => by rw [z, nH] at e'; cases e')]; exact e'
          · rw [upd_ne (fun z => by rw [z, nH] at e'; cases e')]; exact e'
    refine ⟨.ref s.heap.objs.size, _, I3, rfl, ⟨_, x, y, nH, rfl, rfl, fun xs' q => ?_, fun ys' q => ?_⟩, ⟨n1, kTI, ⟨_, _, n2.extBut _ _ D.a2 w2⟩, (zSub a c X.prog X.w).atK _ _ _ _ w3 fun o e => n2.extBut _ _ D.a3 e, (zSub b d X.prog X.w).atK _ _ _ _ w4 fun o e => n2.extBut _ _ D.a4 e⟩, fun q hq => ?_⟩
    · rw [← I.sqX_inj s1 q]; exact hx
    · rw [← I.sqX_inj s2 q]; exact hy
    · have hlt : q < s.heap.objs.size := by
        simp only [List.mem_cons, List.mem_nil_iff, or_false] at hq
        rcases hq with rfl | rfl | rfl | rfl | rfl
        · exact Heap.lt_size t1
        · exact Heap.lt_size t2
        · exact Heap.lt_size t3
        · exact let ⟨o, e, _⟩ := (zSub a c X.prog X.w).obj _ _ _ t4; Heap.lt_size e
        · exact let ⟨o, e, _⟩ := (zSub b d X.prog X.w).obj _ _ _ t5; Heap.lt_size e
      rw [upd_ne (Nat.ne_of_lt hlt)]
      exact (fz q hq).1
  done := fun X e1 e2 e3 hc i pins s σ H E I f t g => by
    subst e1 e2 e3
    obtain ⟨t1, t2, ⟨u, v, t3⟩, t4, t5⟩ := t
    obtain ⟨xs, ys, s1, s2, hend⟩ := g
    obtain ⟨us, r1, q1⟩ := I.sqX s1
    obtain ⟨vs, r2, q2⟩ := I.sqX s2
    have fz : ∀ q ∈ [z, TI, TO, i1, i2], FpOk X pins H q := f
    have hh : X.A.handled = none := I.ok.hd hc
    have hT : s.TypeIs (.ref z) "zip" := ⟨_, t1, rfl⟩
    have hend' : us.toArray[i]? = none ∨ vs.toArray[i]? = none := by
      rcases hend with e | e
      · exact .inl (by have := r1.length; simp; omega)
      · exact .inr (by have := r2.length; simp; omega)
    unfold pyNext
    refine wpAny_bind (wpAny_attempt (wpAny_callSpecial?_slot (name := Str.ofString "__next__") hT F.slot_zip_next (wpAny_call_entry F.slot_zip_next hT F.entry_zip_next
      (zipTurn_end (zSub a c _ _) (zSub b d _ _) hh D t1 t2 t3 t4 t5 q1 q2 hend' fun h' e hk he => ?_) (F.args_zip_next_1 _))))
    obtain ⟨o, ho, hcl⟩ := he
    refine wpAny_bind (wpAny_isInstance (T := "StopIteration") (b := true) ⟨o, ho, hcl⟩ isSubtype_stop (wpAny_pure ⟨rfl, ?_⟩))
    have kp : ∀ q o, q ∉ [z, TI, TO, i1, i2] → s.heap.get? q = some o → h'.get? q = some o := fun q o hq e => by
      simp only [List.mem_cons, List.mem_nil_iff, or_false, not_or] at hq
      exact hk q o hq.1 hq.2.2.1 hq.2.2.2.1 hq.2.2.2.2 e
    have Hn : ∀ q u, H q = some u → q ∉ [z, TI, TO, i1, i2] := fun q u e hq => by rw [(fz q hq).1] at e; cases e
    refine I.step (g' := s.gens) (d' := s.drawn) (t' := s.toks) (ch := [z, TI, TO, i1, i2]) (fun q hq => ⟨(fz q hq).2.2.2.1, (fz q hq).2.1, (fz q hq).2.2.2.2.1, (fz q hq).2.2.2.2.2⟩) (fun q o _ _ hq e _ => kp q o hq e) (fun q o _ _ hq e _ => ⟨o.slots, kp q o hq e⟩) (fun _ _ _ _ n => n)
      (fun q o hq e => ⟨o, kp q o hq e⟩) (fun _ _ e => e) (fun _ _ _ e => e) (fun q ps e => ⟨#[], by rw [e]; simp⟩) (fun m hm => ?_) (fun q u e => ?_) I.bare
    · obtain ⟨o, es, ep, ho, r⟩ := hm
      exact ⟨o, es, ep, kp _ o (fun hq => (fz _ hq).2.1 rfl) ho, r⟩
    · refine (I.hok q u e).stay (fun q' v hq' e' => kp q' v ?_ e') (fun _ e' => e') fun _ _ e' => e'
      rcases hq' with rfl | hq'
      · exact Hn _ u e
      · exact Hn _ _ hq'
  self := fun A i s Q E t q => wpAny_pyIter_zip t.1 q
end L2
set_option Elab.async false
set_option linter.all false
set_option maxRecDepth 100000
namespace L2
open PySem PySem.Spec PyProof.Rows
section
variable {X : Cx} {pins : List (Addr × Obj)} {σ : St} {H H2 : Hp} {s s2 : Shared} {a : Addr} {o : HO}
end
section
variable {P : Program} {w : World} {A : Around} {E : Value → Shared → Prop} {s : Shared}
end
end L2
set_option Elab.async false
set_option linter.all false
set_option maxRecDepth 100000
namespace L2
open PySem PySem.Spec PyProof.Rows
section
variable {P : Program} {w : World} {A : Around} {E : Value → Shared → Prop} {s : Shared} {R : Result → Shared → Prop}
end
section
variable {X : Cx} {e : Expr} {te : TE} {p1 p2 pos pos2 : Pos}
end
end L2
set_option Elab.async false
set_option linter.all false
set_option maxRecDepth 100000
namespace L2
open PySem PySem.Spec PyProof.Rows
theorem natNe {a b : Nat} (h : a < b ∨ b < a) : a ≠ b := by omega
theorem zap_of (n a b : Nat) (h1 : a < n) (h2 : b < n) : ZAp (n + 4) (n + 2) (n + 3) n (n + 1) a b :=
  ⟨natNe (by omega), natNe (by omega), natNe (by omega), natNe (by omega), natNe (by omega), natNe (by omega), natNe (by omega), natNe (by omega), natNe (by omega), natNe (by omega), ⟨natNe (by omega), natNe (by omega), natNe (by omega), natNe (by omega)⟩, ⟨natNe (by omega), natNe (by omega), natNe (by omega), natNe (by omega)⟩⟩
section
variable {X : Cx}
def iZip (K : PySem.W.Frag) (c d : Bool) (ta : TA) : TI := fun σ H R => ta σ H fun vs H1 => ∃ a b, vs = [.ref a, .ref b] ∧ (∃ xs, SqX K c H1 a xs) ∧ (∃ ys, SqX K d H1 b ys) ∧ R (Itz K c d a b) H1
theorem pi_zip {elts : List Expr} {x1} {tpos : Pos} {ea eb : Expr} {ta : TA} {p pos : Pos} (c d : Bool) (hg : Gl X "zip") (hm : X.mg "zip" = none) (ha : PA X [ea, eb] ta)
    (hs : starEach [ea, eb] X.env = [(false, eval ea X.env), (false, eval eb X.env)] := by rfl) (hs2 : starEach [eb] X.env = [(false, eval eb X.env)] := by rfl) :
    PI X (.Tuple elts x1 tpos) (.Call (.Name "zip" p) [ea, eb] [] pos) (iZip X.K c d ta) := by
  intro pins s σ H R I h
  refine Call_ (ld_blt I hg hm boot_zip (PyProof.Rows.callWith_type1 (thnA (ha pos pins s σ H _ I h) fun us s1 vs H1 I1 r1 q1 => ?_) (by rw [hs, hs2]) (by rw [hs2]; rfl)))
  obtain ⟨a, b, e, ⟨xs, sa⟩, ⟨ys, sb⟩, q⟩ := q1
  subst e
  obtain ⟨u, v, rfl, ru, rv⟩ := vals2 r1
  cases ru
  cases rv
  obtain ⟨us, r1, q1⟩ := I1.sqX sa
  obtain ⟨vs, r2, q2⟩ := I1.sqX sb
  obtain ⟨oa, hoa⟩ := zSrc_there a c _ _ q1
  obtain ⟨ob, hob⟩ := zSrc_there b d _ _ q2
  have la := Heap.lt_size hoa
  have lb := Heap.lt_size hob
  refine zip_made (zSub a c) (zSub b d) (zSrc_there b d) q1 q2 (fun h' w1 w2 w3 w4 w5 w6 => ?_) (zObj_free a c) (zObj_free b d)
  refine wpAny_pyIter_zip w1 ?_
  have D := zap_of s1.heap.objs.size a b la lb
  refine ⟨_, [s1.heap.objs.size + 4, s1.heap.objs.size + 2, s1.heap.objs.size + 3, s1.heap.objs.size, s1.heap.objs.size + 1], _, _, H1, rfl, I1.kept (t' := s1.toks) w6, turn_zip c d a b _ _ _ _ _ D, ⟨w1, w2, ⟨_, _, w3⟩, w4, w5⟩, fun q hq => ?_, q⟩
  have hle : s1.heap.objs.size ≤ q := by
    simp only [List.mem_cons, List.mem_nil_iff, or_false] at hq
    rcases hq with rfl | rfl | rfl | rfl | rfl
    · exact Nat.le_add_right _ 4
    · exact Nat.le_add_right _ 2
    · exact Nat.le_add_right _ 3
    · exact Nat.le_refl _
    · exact Nat.le_add_right _ 1
  exact I1.fpOk hle (I1.hok.fresh hle)
end
end L2
set_option linter.all false
namespace Pb
structure Road where
  a : Int
  b : Int
  t : Int
  u : Int
  deriving DecidableEq
def Joined (m : Int) (rs : List Road) : Prop := ∀ S : Int → Prop, S 0 → (∀ r ∈ rs, (S r.a ↔ S r.b)) → ∀ v, 0 ≤ v → v < m → S v
structure RoadOk (m : Int) (r : Road) : Prop where
  a0 : 0 ≤ r.a
  a1 : r.a < m
  b0 : 0 ≤ r.b
  b1 : r.b < m
  ne : r.a ≠ r.b
  t0 : 2 ≤ r.t
  t1 : r.t ≤ 1000000
  u0 : 2 ≤ r.u
  u1 : r.u ≤ 1000000
structure Good (m : Int) (rs : List Road) : Prop where
  m1 : 1 ≤ m
  m24 : m ≤ 24
  len : (rs.length : Int) = m - 1
  ok : ∀ r ∈ rs, RoadOk m r
  jn : Joined m rs
theorem nodup_le {α : Type} [DecidableEq α] : ∀ {l l' : List α}, l.Nodup → (∀ x ∈ l, x ∈ l') → l.length ≤ l'.length
  | [], _, _, _ => Nat.zero_le _
  | x :: r, l', hn, hs => by
    obtain ⟨h1, h2⟩ := List.nodup_cons.mp hn
    have hx : x ∈ l' := hs x List.mem_cons_self
    have : r.length ≤ (l'.erase x).length := nodup_le h2 fun y hy => (List.mem_erase_of_ne (fun (e : y = x) => h1 (by rw [← e]; exact hy))).mpr (hs y (List.mem_cons_of_mem _ hy))
    rw [List.length_erase_of_mem hx] at this
    have hp : 0 < l'.length := List.length_pos_of_mem hx
    rw [List.length_cons]
    omega
def below (n : Nat) : List Int := (List.range n).map fun (k : Nat) => (k : Int)
theorem mem_below {n : Nat} {v : Int} : v ∈ below n ↔ 0 ≤ v ∧ v < n := by
  unfold below
  rw [List.mem_map]
  constructor
  · rintro ⟨k, hk, rfl⟩
    have := List.mem_range.mp hk
    omega
  · rintro ⟨h0, h1⟩
    exact ⟨v.toNat, List.mem_range.mpr (by omega), by omega⟩
theorem below_length (n : Nat) : (below n).length = n := by simp [below]
theorem nodup_below (n : Nat) : (below n).Nodup := by
  unfold below
  refine List.Pairwise.map _ (fun a b h => ?_) (List.nodup_range (n := n))
  intro e
  exact h (by omega)
theorem nodup_len {m : Int} {l : List Int} (hm : 0 ≤ m) (hn : l.Nodup) (h : ∀ x ∈ l, 0 ≤ x ∧ x < m) : (l.length : Int) ≤ m := by
  have := nodup_le (l' := below m.toNat) hn fun x hx => mem_below.mpr ⟨(h x hx).1, by have := (h x hx).2; omega⟩
  rw [below_length] at this
  omega
theorem full_len {m : Int} {l : List Int} (hm : 0 ≤ m) (h : ∀ v, 0 ≤ v → v < m → v ∈ l) : m ≤ (l.length : Int) := by
  have := nodup_le (l := below m.toNat) (l' := l) (nodup_below _) fun x hx => by
    obtain ⟨h0, h1⟩ := mem_below.mp hx
    exact h x h0 (by omega)
  rw [below_length] at this
  omega
def ends1 (p : Int) (r : Road) : List Int := (if r.a = p then [r.b] else []) ++ (if r.b = p then [r.a] else [])
def ends (rs : List Road) (p : Int) : List Int := rs.flatMap (ends1 p)
theorem mem_ends {rs : List Road} {p e : Int} : e ∈ ends rs p ↔ ∃ r ∈ rs, (r.a = p ∧ r.b = e) ∨ (r.b = p ∧ r.a = e) := by
  unfold ends ends1
  rw [List.mem_flatMap]
  constructor
  · rintro ⟨r, hr, h⟩
    refine ⟨r, hr, ?_⟩
    rcases List.mem_append.mp h with h | h
    · by_cases c : r.a = p
      · rw [if_pos c] at h
        exact .inl ⟨c, (List.mem_singleton.mp h).symm⟩
      · rw [if_neg c] at h; cases h
    · by_cases c : r.b = p
      · rw [if_pos c] at h
        exact .inr ⟨c, (List.mem_singleton.mp h).symm⟩
      · rw [if_neg c] at h; cases h
  · rintro ⟨r, hr, h⟩
    refine ⟨r, hr, List.mem_append.mpr ?_⟩
    rcases h with ⟨h1, h2⟩ | ⟨h1, h2⟩
    · exact .inl (by rw [if_pos h1, h2]; exact List.mem_singleton.mpr rfl)
    · exact .inr (by rw [if_pos h1, h2]; exact List.mem_singleton.mpr rfl)
theorem ends_len (rs : List Road) (p : Int) : (ends rs p).length ≤ 2 * rs.length := by
  unfold ends
  induction rs with
  | nil => simp
  | cons r rs ih =>
    rw [List.flatMap_cons, List.length_append, List.length_cons]
    have : (ends1 p r).length ≤ 2 := by
      unfold ends1
      rw [List.length_append]
      by_cases c : r.a = p <;> by_cases d : r.b = p <;> simp [c, d]
    omega
theorem ends_snoc (rs : List Road) (r : Road) (p : Int) : ends (rs ++ [r]) p = ends rs p ++ ends1 p r := by
  unfold ends
  rw [List.flatMap_append]
  simp
def jstep (c : List Int × List Int) (e : Int) : List Int × List Int := if e ∈ c.1 then c else (c.1 ++ [e], c.2 ++ [e])
structure JInv (m : Int) (rs : List Road) (ks ws : List Int) : Prop where
  nd : ks.Nodup
  zero : 0 ∈ ks
  rng : ∀ k ∈ ks, 0 ≤ k ∧ k < m
  sub : ∀ w ∈ ws, w ∈ ks
  cl : ∀ k ∈ ks, k ∉ ws → ∀ e ∈ ends rs k, e ∈ ks
  wl : ws.length ≤ ks.length
theorem nodup_snoc {l : List Int} {e : Int} (h : l.Nodup) (he : e ∉ l) : (l ++ [e]).Nodup := by
  rw [List.nodup_append]
  refine ⟨h, by simp, fun a ha b hb => ?_⟩
  rw [List.mem_singleton.mp hb]
  exact fun z => he (z ▸ ha)
structure JMid (m : Int) (rs : List Road) (p : Int) (es ks ws ks0 : List Int) (n0 : Nat) : Prop where
  nd : ks.Nodup
  zero : 0 ∈ ks
  rng : ∀ k ∈ ks, 0 ≤ k ∧ k < m
  sub : ∀ w ∈ ws, w ∈ ks
  cl : ∀ k ∈ ks, k ∉ ws → k = p ∨ ∀ e ∈ ends rs k, e ∈ ks
  seen : ∀ e ∈ es, e ∈ ks
  pin : p ∈ ks
  mu : ks.length + n0 = ks0.length + ws.length
  up : ks0.length ≤ ks.length
  wl : ws.length ≤ ks.length
theorem JMid.start {m : Int} {rs : List Road} {ks ws : List Int} {p : Int} (h : JInv m rs ks (ws ++ [p])) : JMid m rs p [] ks ws ks ws.length where
  nd := h.nd
  zero := h.zero
  rng := h.rng
  sub := fun w hw => h.sub w (List.mem_append_left _ hw)
  cl := fun k hk hw => by
    by_cases e : k = p
    · exact .inl e
    · exact .inr (h.cl k hk fun z => by
        rcases List.mem_append.mp z with z | z
        · exact hw z
        · exact e (List.mem_singleton.mp z))
  seen := fun e he => by cases he
  pin := h.sub p (List.mem_append_right _ (List.mem_singleton.mpr rfl))
  mu := rfl
  up := Nat.le_refl _
  wl := by have := h.wl; rw [List.length_append] at this; simp at this; omega
theorem JMid.step {m : Int} {rs : List Road} {p : Int} {es ks ws ks0 : List Int} {n0 : Nat} {e : Int} (h : JMid m rs p es ks ws ks0 n0) (h0 : 0 ≤ e) (h1 : e < m) :
    JMid m rs p (es ++ [e]) (jstep (ks, ws) e).1 (jstep (ks, ws) e).2 ks0 n0 := by
  unfold jstep
  by_cases c : e ∈ ks
  · rw [if_pos c]
    refine ⟨h.nd, h.zero, h.rng, h.sub, h.cl, fun x hx => ?_, h.pin, h.mu, h.up, h.wl⟩
    rcases List.mem_append.mp hx with z | z
    · exact h.seen x z
    · rw [List.mem_singleton.mp z]; exact c
  · rw [if_neg c]
    dsimp only
    refine ⟨nodup_snoc h.nd c, List.mem_append_left _ h.zero, fun k hk => ?_, fun w hw => ?_, fun k hk hw => ?_, fun x hx => ?_, List.mem_append_left _ h.pin, ?_, by have := h.up; simp; omega, by have := h.wl; simp; exact this⟩
    · rcases List.mem_append.mp hk with z | z
      · exact h.rng k z
      · rw [List.mem_singleton.mp z]; exact ⟨h0, h1⟩
    · rcases List.mem_append.mp hw with z | z
      · exact List.mem_append_left _ (h.sub w z)
      · exact List.mem_append_right _ z
    · rcases List.mem_append.mp hk with z | z
      · rcases h.cl k z fun y => hw (List.mem_append_left _ y) with y | y
        · exact .inl y
        · exact .inr fun x hx => List.mem_append_left _ (y x hx)
      · exact absurd (List.mem_append_right _ z) hw
    · rcases List.mem_append.mp hx with z | z
      · exact List.mem_append_left _ (h.seen x z)
      · exact List.mem_append_right _ z
    · have := h.mu
      simp only [List.length_append, List.length_cons, List.length_nil]
      omega
theorem JMid.done {m : Int} {rs : List Road} {p : Int} {ks ws ks0 : List Int} {n0 : Nat} (h : JMid m rs p (ends rs p) ks ws ks0 n0) : JInv m rs ks ws where
  nd := h.nd
  zero := h.zero
  rng := h.rng
  sub := h.sub
  cl := fun k hk hw => by
    rcases h.cl k hk hw with z | z
    · rw [z]; exact h.seen
    · exact z
  wl := h.wl
theorem JInv.start {m : Int} {rs : List Road} (hm : 1 ≤ m) : JInv m rs [0] [0] where
  nd := by simp
  zero := by simp
  rng := fun k hk => by rw [List.mem_singleton.mp hk]; omega
  sub := fun w hw => hw
  cl := fun k hk hw => absurd hk hw
  wl := by simp
theorem JInv.all {m : Int} {rs : List Road} {ks : List Int} (h : JInv m rs ks []) (hm : 1 ≤ m) (j : Joined m rs) : (ks.length : Int) = m := by
  have up := nodup_len (by omega) h.nd h.rng
  have : ∀ v, 0 ≤ v → v < m → v ∈ ks := j (fun v => v ∈ ks) h.zero fun r hr => by
    constructor
    · intro ha
      exact h.cl r.a ha (by simp) r.b (mem_ends.mpr ⟨r, hr, .inl ⟨rfl, rfl⟩⟩)
    · intro hb
      exact h.cl r.b hb (by simp) r.a (mem_ends.mpr ⟨r, hr, .inr ⟨rfl, rfl⟩⟩)
  have := full_len (by omega) this
  omega
theorem ends_rng {m : Int} {rs : List Road} (h : ∀ r ∈ rs, RoadOk m r) {p e : Int} (he : e ∈ ends rs p) : 0 ≤ e ∧ e < m := by
  obtain ⟨r, hr, z⟩ := mem_ends.mp he
  have k := h r hr
  rcases z with ⟨_, rfl⟩ | ⟨_, rfl⟩
  · exact ⟨k.b0, k.b1⟩
  · exact ⟨k.a0, k.a1⟩
structure Row where
  k : Int
  un : Int
  t : Int
  u : Int
  sw : Int
  sp : Int
structure RowOk (r : Row) : Prop where
  u0 : 0 ≤ r.un
  u1 : r.un < r.k
  t0 : 2 ≤ r.t
  t1 : r.t ≤ 1000000
  v0 : 2 ≤ r.u
  v1 : r.u ≤ 1000000
  s0 : 0 ≤ r.sp
  s1 : r.sp < r.k
structure Rows (n : Nat) (rows : List Row) : Prop where
  len : rows.length = n
  ok : ∀ (i : Nat) (r : Row), rows[i]? = some r → r.k = (i : Int) + 1 ∧ RowOk r
structure Labels (n : Nat) (ls : List Int) : Prop where
  len : ls.length = n
  nd : ls.Nodup
  all : ∀ v : Int, 0 ≤ v → v < n → v ∈ ls
  rng : ∀ v ∈ ls, 0 ≤ v ∧ v < n
theorem Labels.nil : Labels 0 [] := ⟨rfl, by simp, fun v h0 h1 => (by omega), fun v h => (by cases h)⟩
theorem mem_insert {α : Type} {l : List α} {k : Nat} {x y : α} : y ∈ l.take k ++ x :: l.drop k ↔ y = x ∨ y ∈ l := by
  rw [List.mem_append, List.mem_cons]
  constructor
  · rintro (h | h | h)
    · exact .inr (List.mem_of_mem_take h)
    · exact .inl h
    · exact .inr (List.mem_of_mem_drop h)
  · rintro (h | h)
    · exact .inr (.inl h)
    · rw [← List.take_append_drop k l] at h
      rcases List.mem_append.mp h with z | z
      · exact .inl z
      · exact .inr (.inr z)
theorem Labels.put {n : Nat} {ls : List Int} (h : Labels n ls) (k : Nat) (hk : k ≤ n) : Labels (n + 1) (ls.take k ++ (n : Int) :: ls.drop k) where
  len := by
    rw [List.length_append, List.length_cons, List.length_take, List.length_drop, h.len]
    omega
  nd := by
    have p : (ls.take k ++ (n : Int) :: ls.drop k).Perm ((n : Int) :: ls) := by
      refine List.perm_middle.trans ?_
      rw [List.take_append_drop]
    refine p.nodup_iff.mpr (List.nodup_cons.mpr ⟨fun z => ?_, h.nd⟩)
    have := (h.rng _ z).2
    omega
  all := fun v h0 h1 => by
    rw [mem_insert]
    by_cases e : v = n
    · exact .inl e
    · exact .inr (h.all v h0 (by omega))
  rng := fun v hv => by
    rcases mem_insert.mp hv with z | z
    · omega
    · have := h.rng v z
      omega
def roadOf (ls : List Int) (r : Row) : Road := if r.sw = 1 then ⟨ls.getD r.un.toNat 0, ls.getD r.k.toNat 0, r.t, r.u⟩ else ⟨ls.getD r.k.toNat 0, ls.getD r.un.toNat 0, r.t, r.u⟩
structure Put (ls : List Int) (rows : List Row) (rs : List Road) : Prop where
  len : rs.length = rows.length
  of : ∀ r ∈ rs, ∃ w ∈ rows, r = roadOf ls w
  to : ∀ w ∈ rows, roadOf ls w ∈ rs
theorem Put.nil (ls : List Int) : Put ls [] [] := ⟨rfl, fun r h => (by cases h), fun r h => (by cases h)⟩
theorem Put.step {ls : List Int} {rows : List Row} {rs : List Road} (h : Put ls rows rs) (w : Row) (k : Nat) : Put ls (rows ++ [w]) (rs.take k ++ roadOf ls w :: rs.drop k) where
  len := by
    rw [List.length_append, List.length_cons, List.length_take, List.length_drop, List.length_append, h.len]
    simp
    omega
  of := fun r hr => by
    rcases mem_insert.mp hr with z | z
    · exact ⟨w, by simp, z⟩
    · obtain ⟨w', hw, e⟩ := h.of r z
      exact ⟨w', List.mem_append_left _ hw, e⟩
  to := fun w' hw => by
    rw [mem_insert]
    rcases List.mem_append.mp hw with z | z
    · exact .inr (h.to w' z)
    · exact .inl (by rw [List.mem_singleton.mp z])
theorem getD_of {ls : List Int} {n : Nat} (h : Labels n ls) {i : Nat} (hi : i < n) : ls[i]? = some (ls.getD i 0) := by
  have : i < ls.length := by rw [h.len]; exact hi
  simp [List.getD, List.getElem?_eq_getElem this]
theorem getD_mem {ls : List Int} {n : Nat} (h : Labels n ls) {i : Nat} (hi : i < n) : ls.getD i 0 ∈ ls := List.mem_of_getElem? (getD_of h hi)
theorem getD_inj {ls : List Int} {n : Nat} (h : Labels n ls) {i j : Nat} (hi : i < n) (hj : j < n) (e : ls.getD i 0 = ls.getD j 0) : i = j := by
  have h1 : i < ls.length := by rw [h.len]; exact hi
  have h2 : j < ls.length := by rw [h.len]; exact hj
  have e1 := getD_of h hi
  have e2 := getD_of h hj
  rw [e] at e1
  have e3 : ls[i]'h1 = ls[j]'h2 := by
    rw [List.getElem?_eq_getElem h1] at e1
    rw [List.getElem?_eq_getElem h2] at e2
    exact Option.some.inj (e1.trans e2.symm)
  have nd := List.pairwise_iff_getElem.mp h.nd
  rcases Nat.lt_trichotomy i j with z | z | z
  · exact absurd e3 (nd i j h1 h2 z)
  · exact z
  · exact absurd e3.symm (nd j i h2 h1 z)
theorem good_of {n : Nat} {ls : List Int} {rows : List Row} {rs : List Road} (h1 : 1 ≤ n) (h24 : n ≤ 24) (L : Labels n ls) (W : Rows (n - 1) rows) (P : Put ls rows rs) : Good n rs where
  m1 := by omega
  m24 := by omega
  len := by rw [P.len, W.len]; omega
  ok := fun r hr => by
    obtain ⟨w, hw, rfl⟩ := P.of r hr
    obtain ⟨i, hi⟩ := List.getElem?_of_mem hw
    obtain ⟨ek, ok⟩ := W.ok i w hi
    have hil : i < rows.length := (List.getElem?_eq_some_iff.mp hi).1
    rw [W.len] at hil
    have hk : w.k.toNat < n := by omega
    have hu : w.un.toNat < n := by have := ok.u0; have := ok.u1; omega
    have r1 := L.rng _ (getD_mem L hk)
    have r2 := L.rng _ (getD_mem L hu)
    have ne : ls.getD w.k.toNat 0 ≠ ls.getD w.un.toNat 0 := fun e => by
      have := getD_inj L hk hu e
      have := ok.u0; have := ok.u1
      omega
    unfold roadOf
    by_cases c : w.sw = 1
    · rw [if_pos c]
      exact ⟨r2.1, r2.2, r1.1, r1.2, ne.symm, ok.t0, ok.t1, ok.v0, ok.v1⟩
    · rw [if_neg c]
      exact ⟨r1.1, r1.2, r2.1, r2.2, ne, ok.t0, ok.t1, ok.v0, ok.v1⟩
  jn := by
    intro S s0 hS
    -- the label of each place is reached just where that of the place 0 of the labels is
    have key : ∀ i : Nat, i < n → (S (ls.getD i 0) ↔ S (ls.getD 0 0)) := by
      intro i
      induction i using Nat.strongRecOn with
      | ind i ih =>
        intro hi
        by_cases z : i = 0
        · rw [z]
        · have hil : i - 1 < rows.length := by rw [W.len]; omega
          obtain ⟨ek, ok⟩ := W.ok (i - 1) rows[i - 1] (List.getElem?_eq_getElem hil)
          have hm := P.to rows[i - 1] (List.getElem_mem hil)
          have hr := hS _ hm
          have hk : (rows[i - 1]).k.toNat = i := by omega
          have hu : (rows[i - 1]).un.toNat < i := by have := ok.u0; have := ok.u1; omega
          have hh := ih _ hu (by omega)
          unfold roadOf at hr
          rw [hk] at hr
          by_cases c : (rows[i - 1]).sw = 1
          · rw [if_pos c] at hr
            exact hr.symm.trans hh
          · rw [if_neg c] at hr
            exact hr.trans hh
    have at_ : ∀ v, 0 ≤ v → v < (n : Int) → ∃ i, i < n ∧ ls.getD i 0 = v := fun v h0 h1 => by
      obtain ⟨i, hi⟩ := List.getElem?_of_mem (L.all v h0 h1)
      have hil : i < n := by have := (List.getElem?_eq_some_iff.mp hi).1; rw [L.len] at this; exact this
      refine ⟨i, hil, ?_⟩
      have := getD_of L hil
      rw [hi] at this
      exact (Option.some.inj this).symm
    intro v h0 hv
    obtain ⟨i, hi, rfl⟩ := at_ v h0 hv
    obtain ⟨j, hj, ej⟩ := at_ 0 (by omega) (by omega)
    refine (key i hi).mpr ((key j hj).mp ?_)
    rw [ej]
    exact s0
end Pb
set_option linter.all false
namespace Pb
def Adj (rs : List Road) (a b : Int) : Prop := ∃ x ∈ rs, (x.a = a ∧ x.b = b) ∨ (x.b = a ∧ x.a = b)
theorem Adj.symm {rs : List Road} {a b : Int} (h : Adj rs a b) : Adj rs b a := by
  obtain ⟨x, hx, h⟩ := h
  rcases h with ⟨h1, h2⟩ | ⟨h1, h2⟩
  · exact ⟨x, hx, .inr ⟨h2, h1⟩⟩
  · exact ⟨x, hx, .inl ⟨h2, h1⟩⟩
theorem adj_ends {rs : List Road} {a b : Int} : b ∈ ends rs a ↔ Adj rs a b := mem_ends
theorem Good.adj {m : Int} {rs : List Road} (g : Good m rs) {a b : Int} (h : Adj rs a b) : (0 ≤ a ∧ a < m) ∧ (0 ≤ b ∧ b < m) ∧ a ≠ b := by
  obtain ⟨x, hx, h⟩ := h
  have k := g.ok x hx
  rcases h with ⟨h1, h2⟩ | ⟨h1, h2⟩
  · subst h1 h2; exact ⟨⟨k.a0, k.a1⟩, ⟨k.b0, k.b1⟩, k.ne⟩
  · subst h1 h2; exact ⟨⟨k.b0, k.b1⟩, ⟨k.a0, k.a1⟩, k.ne.symm⟩
theorem Good.from {m : Int} {rs : List Road} (g : Good m rs) {r : Int} (h0 : 0 ≤ r) (h1 : r < m) (S : Int → Prop) (sr : S r) (hS : ∀ x ∈ rs, (S x.a ↔ S x.b)) : ∀ v, 0 ≤ v → v < m → S v := by
  have key : ∀ v, 0 ≤ v → v < m → (S v ↔ S 0) := g.jn (fun v => S v ↔ S 0) Iff.rfl fun x hx => by
    have := hS x hx
    exact ⟨fun h => this.symm.trans h, fun h => this.trans h⟩
  intro v a b
  exact (key v a b).mpr ((key r h0 h1).mp sr)
inductive Dist (rs : List Road) (r : Int) : Nat → Int → Prop
  | zero : Dist rs r 0 r
  | step {n : Nat} {u v : Int} : Dist rs r n u → Adj rs u v → Dist rs r (n + 1) v
theorem least {P : Nat → Prop} : ∀ n, P n → ∃ k, P k ∧ ∀ j, j < k → ¬ P j := by
  intro n
  induction n using Nat.strongRecOn with
  | ind n ih =>
    intro h
    by_cases z : ∃ j, j < n ∧ P j
    · obtain ⟨j, hj, hp⟩ := z
      exact ih j hj hp
    · exact ⟨n, h, fun j hj hp => z ⟨j, hj, hp⟩⟩
structure Rooted (m : Int) (rs : List Road) (r : Int) (par : Int → Int) (dep : Int → Nat) : Prop where
  root : dep r = 0
  up : ∀ v, 0 ≤ v → v < m → v ≠ r → (0 ≤ par v ∧ par v < m) ∧ Adj rs v (par v) ∧ dep (par v) + 1 = dep v
  road : ∀ x ∈ rs, (x.a ≠ r ∧ par x.a = x.b) ∨ (x.b ≠ r ∧ par x.b = x.a)
  one : (rs.map fun x => if x.a ≠ r ∧ par x.a = x.b then x.a else x.b).Nodup
theorem full_of {n : Nat} {l : List Nat} (hn : l.Nodup) (hl : l.length = n) (hb : ∀ x ∈ l, x < n) : ∀ i, i < n → i ∈ l := by
  intro i hi
  by_cases z : i ∈ l
  · exact z
  · have := nodup_le (l := i :: l) (l' := List.range n) (List.nodup_cons.mpr ⟨z, hn⟩) fun x hx => by
      rcases List.mem_cons.mp hx with rfl | hx
      · exact List.mem_range.mpr hi
      · exact List.mem_range.mpr (hb x hx)
    rw [List.length_cons, List.length_range] at this
    omega
theorem rooted {m : Int} {rs : List Road} (g : Good m rs) {r : Int} (h0 : 0 ≤ r) (h1 : r < m) : ∃ par dep, Rooted m rs r par dep := by
  classical
  have reach : ∀ v, 0 ≤ v → v < m → ∃ n, Dist rs r n v := g.from h0 h1 (fun v => ∃ n, Dist rs r n v) ⟨0, .zero⟩ fun x hx => by
    constructor
    · rintro ⟨n, d⟩; exact ⟨n + 1, d.step ⟨x, hx, .inl ⟨rfl, rfl⟩⟩⟩
    · rintro ⟨n, d⟩; exact ⟨n + 1, d.step ⟨x, hx, .inr ⟨rfl, rfl⟩⟩⟩
  have hd : ∀ v, ∃ k, (0 ≤ v ∧ v < m) → Dist rs r k v ∧ ∀ j, j < k → ¬ Dist rs r j v := fun v => by
    by_cases z : 0 ≤ v ∧ v < m
    · obtain ⟨n, d⟩ := reach v z.1 z.2
      obtain ⟨k, h⟩ := least (P := fun k => Dist rs r k v) n d
      exact ⟨k, fun _ => h⟩
    · exact ⟨0, fun h => absurd h z⟩
  let dep : Int → Nat := fun v => (hd v).choose
  have dspec : ∀ v, 0 ≤ v → v < m → Dist rs r (dep v) v ∧ ∀ j, j < dep v → ¬ Dist rs r j v := fun v a b => (hd v).choose_spec ⟨a, b⟩
  have dr : dep r = 0 := by
    have := (dspec r h0 h1).2 0
    by_cases z : dep r = 0
    · exact z
    · exact absurd Dist.zero (this (by omega))
  have hp : ∀ v, ∃ u, (0 ≤ v ∧ v < m ∧ v ≠ r) → Adj rs v u ∧ dep u + 1 = dep v := fun v => by
    by_cases z : 0 ≤ v ∧ v < m ∧ v ≠ r
    · obtain ⟨a, b, c⟩ := z
      obtain ⟨d, dm⟩ := dspec v a b
      generalize hk : dep v = k at d dm
      cases d with
      | zero => exact absurd rfl c
      | @step n u _ d e =>
        refine ⟨u, fun _ => ⟨e.symm, ?_⟩⟩
        obtain ⟨⟨u0, u1⟩, _⟩ := g.adj e
        have l1 : dep u ≤ n := by
          by_cases w : dep u ≤ n
          · exact w
          · exact absurd d ((dspec u u0 u1).2 n (by omega))
        have l2 : ¬ dep u < n := fun w => dm (dep u + 1) (by omega) ((dspec u u0 u1).1.step e)
        omega
    · exact ⟨0, fun h => absurd h z⟩
  let par : Int → Int := fun v => (hp v).choose
  have pspec : ∀ v, 0 ≤ v → v < m → v ≠ r → Adj rs v (par v) ∧ dep (par v) + 1 = dep v := fun v a b c => (hp v).choose_spec ⟨a, b, c⟩
  -- the road of a place: its index
  have hi : ∀ v, ∃ i : Nat, (0 ≤ v ∧ v < m ∧ v ≠ r) → ∃ x, rs[i]? = some x ∧ ((x.a = v ∧ x.b = par v) ∨ (x.b = v ∧ x.a = par v)) := fun v => by
    by_cases z : 0 ≤ v ∧ v < m ∧ v ≠ r
    · obtain ⟨x, hx, h⟩ := (pspec v z.1 z.2.1 z.2.2).1
      obtain ⟨i, e⟩ := List.getElem?_of_mem hx
      exact ⟨i, fun _ => ⟨x, e, h⟩⟩
    · exact ⟨0, fun h => absurd h z⟩
  let ix : Int → Nat := fun v => (hi v).choose
  have ispec : ∀ v, 0 ≤ v → v < m → v ≠ r → ∃ x, rs[ix v]? = some x ∧ ((x.a = v ∧ x.b = par v) ∨ (x.b = v ∧ x.a = par v)) := fun v a b c => (hi v).choose_spec ⟨a, b, c⟩
  have inj : ∀ v u, 0 ≤ v → v < m → v ≠ r → 0 ≤ u → u < m → u ≠ r → ix v = ix u → v = u := by
    intro v u a b c a' b' c' e
    obtain ⟨x, hx, h⟩ := ispec v a b c
    obtain ⟨y, hy, h'⟩ := ispec u a' b' c'
    rw [e, hy] at hx
    cases hx
    have d1 := (pspec v a b c).2
    have d2 := (pspec u a' b' c').2
    rcases h with ⟨p, q⟩ | ⟨p, q⟩ <;> rcases h' with ⟨p', q'⟩ | ⟨p', q'⟩
    · exact p.symm.trans p'
    · exfalso
      have e1 : v = par u := p.symm.trans q'
      have e2 : u = par v := p'.symm.trans q
      rw [← e1] at d2
      rw [← e2] at d1
      omega
    · exfalso
      have e1 : v = par u := p.symm.trans q'
      have e2 : u = par v := p'.symm.trans q
      rw [← e1] at d2
      rw [← e2] at d1
      omega
    · exact p.symm.trans p'
  let vs : List Int := (below m.toNat).filter fun v => decide (v ≠ r)
  have mv : ∀ v, v ∈ vs ↔ (0 ≤ v ∧ v < m ∧ v ≠ r) := fun v => by
    rw [List.mem_filter, mem_below, decide_eq_true_eq]
    constructor
    · rintro ⟨⟨a, b⟩, c⟩; exact ⟨a, by omega, c⟩
    · rintro ⟨a, b, c⟩; exact ⟨⟨a, by omega⟩, c⟩
  have nv : vs.Nodup := (nodup_below _).filter _
  have lv : vs.length = rs.length := by
    have e1 : (r :: vs).length ≤ (below m.toNat).length := nodup_le (List.nodup_cons.mpr ⟨fun h => ((mv r).mp h).2.2 rfl, nv⟩) fun x hx => by
      rcases List.mem_cons.mp hx with rfl | hx
      · exact mem_below.mpr ⟨h0, by omega⟩
      · have := (mv x).mp hx
        exact mem_below.mpr ⟨this.1, by omega⟩
    have e2 : (below m.toNat).length ≤ (r :: vs).length := nodup_le (nodup_below _) fun x hx => by
      have := mem_below.mp hx
      by_cases z : x = r
      · rw [z]; exact List.mem_cons_self
      · exact List.mem_cons_of_mem _ ((mv x).mpr ⟨this.1, by omega, z⟩)
    rw [below_length, List.length_cons] at e1 e2
    have := g.len
    have := g.m1
    omega
  have il : (vs.map ix).Nodup := by
    have : ∀ (l : List Int), l.Nodup → (∀ v ∈ l, 0 ≤ v ∧ v < m ∧ v ≠ r) → (l.map ix).Nodup := by
      intro l
      induction l with
      | nil => intro _ _; simp
      | cons v l ih =>
        intro hn hm
        obtain ⟨n1, n2⟩ := List.nodup_cons.mp hn
        rw [List.map_cons]
        refine List.nodup_cons.mpr ⟨fun z => ?_, ih n2 fun u hu => hm u (List.mem_cons_of_mem _ hu)⟩
        obtain ⟨u, hu, e⟩ := List.mem_map.mp z
        obtain ⟨a, b, c⟩ := hm v List.mem_cons_self
        obtain ⟨a', b', c'⟩ := hm u (List.mem_cons_of_mem _ hu)
        exact n1 (inj u v a' b' c' a b c e ▸ hu)
    exact this vs nv fun v hv => (mv v).mp hv
  have ib : ∀ i ∈ vs.map ix, i < rs.length := fun i hi' => by
    obtain ⟨v, hv, rfl⟩ := List.mem_map.mp hi'
    obtain ⟨a, b, c⟩ := (mv v).mp hv
    obtain ⟨x, hx, _⟩ := ispec v a b c
    exact (List.getElem?_eq_some_iff.mp hx).1
  have all := full_of il (by rw [List.length_map, lv]) ib
  have back : ∀ i x, rs[i]? = some x → ∃ v, (0 ≤ v ∧ v < m ∧ v ≠ r) ∧ ix v = i ∧ ((x.a = v ∧ x.b = par v) ∨ (x.b = v ∧ x.a = par v)) := fun i x e => by
    obtain ⟨v, hv, rfl⟩ := List.mem_map.mp (all i (List.getElem?_eq_some_iff.mp e).1)
    obtain ⟨a, b, c⟩ := (mv v).mp hv
    obtain ⟨y, hy, h⟩ := ispec v a b c
    rw [e] at hy
    cases hy
    exact ⟨v, ⟨a, b, c⟩, rfl, h⟩
  have noback : ∀ v, 0 ≤ v → v < m → v ≠ r → par v ≠ r → par (par v) ≠ v := fun v a b c c' z => by
    have d1 := pspec v a b c
    obtain ⟨_, ⟨a', b'⟩, _⟩ := g.adj d1.1
    have d2 := pspec (par v) a' b' c'
    rw [z] at d2
    omega
  have kid : ∀ i x, rs[i]? = some x → ∃ v, (0 ≤ v ∧ v < m ∧ v ≠ r) ∧ ix v = i ∧ (if x.a ≠ r ∧ par x.a = x.b then x.a else x.b) = v := fun i x e => by
    obtain ⟨v, ⟨a, b, c⟩, hv, h⟩ := back i x e
    refine ⟨v, ⟨a, b, c⟩, hv, ?_⟩
    rcases h with ⟨p, q⟩ | ⟨p, q⟩
    · rw [if_pos ⟨by rw [p]; exact c, by rw [p]; exact q.symm⟩]
      exact p
    · rw [if_neg]
      · exact p
      · rintro ⟨z1, z2⟩
        rw [q] at z1 z2
        exact noback v a b c z1 (z2.trans p)
  refine ⟨par, dep, dr, fun v a b c => ?_, fun x hx => ?_, ?_⟩
  · obtain ⟨p, q⟩ := pspec v a b c
    obtain ⟨_, w, _⟩ := g.adj p
    exact ⟨w, p, q⟩
  · obtain ⟨i, e⟩ := List.getElem?_of_mem hx
    obtain ⟨v, ⟨a, b, c⟩, _, h⟩ := back i x e
    rcases h with ⟨p, q⟩ | ⟨p, q⟩
    · exact .inl ⟨by rw [p]; exact c, by rw [p]; exact q.symm⟩
    · exact .inr ⟨by rw [p]; exact c, by rw [p]; exact q.symm⟩
  · refine List.pairwise_iff_getElem.mpr fun i j hi' hj' lt => ?_
    rw [List.length_map] at hi' hj'
    rw [List.getElem_map, List.getElem_map]
    intro z
    obtain ⟨v, _, e1, k1⟩ := kid i rs[i] (List.getElem?_eq_getElem hi')
    obtain ⟨u, _, e2, k2⟩ := kid j rs[j] (List.getElem?_eq_getElem hj')
    rw [k1, k2] at z
    rw [z] at e1
    omega
theorem ends_nodup {m : Int} {rs : List Road} (g : Good m rs) {p : Int} (h0 : 0 ≤ p) (h1 : p < m) : (ends rs p).Nodup := by
  obtain ⟨par, dep, R⟩ := rooted g h0 h1
  -- seen from p itself, each road at p is that of its other end
  have one := R.one
  have ok := g.ok
  have road := R.road
  clear R g
  induction rs with
  | nil => simp [ends]
  | cons x l ih =>
    have ox := ok x List.mem_cons_self
    have ol : ∀ y ∈ l, RoadOk m y := fun y hy => ok y (List.mem_cons_of_mem _ hy)
    rw [List.map_cons] at one
    obtain ⟨n1, n2⟩ := List.nodup_cons.mp one
    have il := ih n2 ol fun y hy => road y (List.mem_cons_of_mem _ hy)
    have e : ends (x :: l) p = ends1 p x ++ ends l p := by unfold ends; rw [List.flatMap_cons]
    rw [e]
    -- the kid of a road at p is its other end
    have kid : ∀ y, RoadOk m y → ((y.a ≠ p ∧ par y.a = y.b) ∨ (y.b ≠ p ∧ par y.b = y.a)) → (y.a = p → (if y.a ≠ p ∧ par y.a = y.b then y.a else y.b) = y.b) ∧ (y.b = p → (if y.a ≠ p ∧ par y.a = y.b then y.a else y.b) = y.a) := fun y oy hy => by
      constructor
      · intro z
        rw [if_neg (fun w => w.1 z)]
      · intro z
        rcases hy with hy | hy
        · rw [if_pos hy]
        · exact absurd z hy.1
    have kx := kid x ox (road x List.mem_cons_self)
    have inl : ∀ e ∈ ends l p, e ∈ l.map fun y => if y.a ≠ p ∧ par y.a = y.b then y.a else y.b := fun e he => by
      obtain ⟨y, hy, h⟩ := mem_ends.mp he
      have ky := kid y (ol y hy) (road y (List.mem_cons_of_mem _ hy))
      refine List.mem_map.mpr ⟨y, hy, ?_⟩
      rcases h with ⟨p1, q1⟩ | ⟨p1, q1⟩
      · rw [ky.1 p1]; exact q1
      · rw [ky.2 p1]; exact q1
    unfold ends1
    by_cases c : x.a = p
    · have d : ¬ x.b = p := fun z => ox.ne (c.trans z.symm)
      rw [if_pos c, if_neg d, List.append_nil]
      refine List.nodup_cons.mpr ⟨fun z => n1 ?_, il⟩
      rw [kx.1 c]
      exact inl _ z
    · rw [if_neg c, List.nil_append]
      by_cases d : x.b = p
      · rw [if_pos d]
        refine List.nodup_cons.mpr ⟨fun z => n1 ?_, il⟩
        rw [kx.2 d]
        exact inl _ z
      · rw [if_neg d]
        exact il
def nbrs (m : Int) (rs : List Road) (p : Int) : List Int := (below m.toNat).filter fun q => decide (q ∈ ends rs p)
theorem sorted_eq : ∀ {l l' : List Int}, l.Perm l' → l.Pairwise (· ≤ ·) → l'.Pairwise (· ≤ ·) → l = l'
  | [], l', p, _, _ => (List.Perm.nil_eq p)
  | a :: l, l', p, h, h' => by
    cases l' with
    | nil => exact absurd p.symm.nil_eq (by simp)
    | cons b r =>
      obtain ⟨h1, h2⟩ := List.pairwise_cons.mp h
      obtain ⟨h1', h2'⟩ := List.pairwise_cons.mp h'
      have e : a = b := by
        have ma : a ∈ b :: r := p.subset List.mem_cons_self
        have mb : b ∈ a :: l := p.symm.subset List.mem_cons_self
        rcases List.mem_cons.mp ma with z | z
        · exact z
        · rcases List.mem_cons.mp mb with w | w
          · exact w.symm
          · have := h1 b w
            have := h1' a z
            omega
      subst e
      rw [sorted_eq (List.Perm.cons_inv p) h2 h2']
theorem below_sorted (n : Nat) : (below n).Pairwise (· ≤ ·) := by
  unfold below
  refine List.Pairwise.map _ (fun a b (h : a < b) => ?_) List.pairwise_lt_range
  omega
theorem nbrs_sorted (m : Int) (rs : List Road) (p : Int) : (nbrs m rs p).Pairwise (· ≤ ·) := (below_sorted _).filter _
theorem nbrs_nodup (m : Int) (rs : List Road) (p : Int) : (nbrs m rs p).Nodup := (nodup_below _).filter _
theorem mem_nbrs {m : Int} {rs : List Road} (g : Good m rs) {p q : Int} : q ∈ nbrs m rs p ↔ Adj rs p q := by
  unfold nbrs
  rw [List.mem_filter, decide_eq_true_eq, adj_ends, mem_below]
  constructor
  · exact fun h => h.2
  · intro h
    obtain ⟨_, ⟨a, b⟩, _⟩ := g.adj h
    exact ⟨⟨a, by omega⟩, h⟩
theorem perm_of_nodup : ∀ {l l' : List Int}, l.Nodup → l'.Nodup → (∀ x, x ∈ l ↔ x ∈ l') → l.Perm l'
  | [], l', _, _, h => by
    cases l' with
    | nil => exact .nil
    | cons b r => exact absurd ((h b).mpr List.mem_cons_self) (by simp)
  | a :: l, l', n, n', h => by
    obtain ⟨n1, n2⟩ := List.nodup_cons.mp n
    have ma : a ∈ l' := (h a).mp List.mem_cons_self
    refine List.Perm.trans (List.Perm.cons a ?_) (List.perm_cons_erase ma).symm
    refine perm_of_nodup n2 (n'.erase a) fun x => ?_
    constructor
    · intro hx
      have ne : x ≠ a := fun z => n1 (z ▸ hx)
      exact (List.mem_erase_of_ne ne).mpr ((h x).mp (List.mem_cons_of_mem _ hx))
    · intro hx
      have : x ≠ a := fun z => by
        subst z
        exact (List.Nodup.not_mem_erase n') hx
      rcases List.mem_cons.mp ((h x).mpr (List.mem_of_mem_erase hx)) with z | z
      · exact absurd z this
      · exact z
theorem nbrs_eq {m : Int} {rs : List Road} (g : Good m rs) {p : Int} (h0 : 0 ≤ p) (h1 : p < m) {zs : List Int} (hp : zs.Perm (ends rs p)) (hs : zs.Pairwise (· ≤ ·)) : zs = nbrs m rs p := by
  refine sorted_eq (hp.trans (perm_of_nodup (ends_nodup g h0 h1) (nbrs_nodup m rs p) fun x => ?_)) hs (nbrs_sorted m rs p)
  rw [mem_nbrs g, adj_ends]
def toll1 (a b : Int) (x : Road) : Option Int := if x.a = a ∧ x.b = b then some x.t else if x.a = b ∧ x.b = a then some x.u else none
def tollOf (rs : List Road) (a b : Int) : Option Int := rs.findSome? (toll1 a b)
theorem toll_adj {rs : List Road} {a b : Int} : (tollOf rs a b).isSome = true ↔ Adj rs a b := by
  unfold tollOf
  rw [List.findSome?_isSome_iff]
  constructor
  · rintro ⟨x, hx, h⟩
    unfold toll1 at h
    by_cases c : x.a = a ∧ x.b = b
    · exact ⟨x, hx, .inl c⟩
    · rw [if_neg c] at h
      by_cases d : x.a = b ∧ x.b = a
      · exact ⟨x, hx, .inr ⟨d.2, d.1⟩⟩
      · rw [if_neg d] at h; cases h
  · rintro ⟨x, hx, h⟩
    refine ⟨x, hx, ?_⟩
    unfold toll1
    rcases h with h | h
    · rw [if_pos h]; rfl
    · by_cases c : x.a = a ∧ x.b = b
      · rw [if_pos c]; rfl
      · rw [if_neg c, if_pos ⟨h.2, h.1⟩]; rfl
def Joins (x : Road) (a b : Int) : Prop := (x.a = a ∧ x.b = b) ∨ (x.b = a ∧ x.a = b)
theorem pair_once {m : Int} {rs : List Road} (g : Good m rs) {a b : Int} {i j : Nat} {x y : Road} (hi : rs[i]? = some x) (hj : rs[j]? = some y) (jx : Joins x a b) (jy : Joins y a b) : i = j := by
  obtain ⟨⟨a0, a1⟩, _, _⟩ := g.adj (show Adj rs a b from ⟨x, List.mem_of_getElem? hi, jx⟩)
  obtain ⟨par, dep, R⟩ := rooted g a0 a1
  have kid : ∀ z ∈ rs, Joins z a b → (if z.a ≠ a ∧ par z.a = z.b then z.a else z.b) = b := fun z hz jz => by
    rcases jz with ⟨p, q⟩ | ⟨p, q⟩
    · rw [if_neg (fun w => w.1 p)]
      exact q
    · rcases R.road z hz with w | w
      · rw [if_pos w]
        exact q
      · exact absurd p w.1
  have li := (List.getElem?_eq_some_iff.mp hi)
  have lj := (List.getElem?_eq_some_iff.mp hj)
  obtain ⟨li, ei⟩ := li
  obtain ⟨lj, ej⟩ := lj
  have nd := List.pairwise_iff_getElem.mp R.one
  have vi : (rs.map fun z => if z.a ≠ a ∧ par z.a = z.b then z.a else z.b)[i]'(by rw [List.length_map]; exact li) = b := by
    rw [List.getElem_map]
    exact kid _ (List.getElem_mem li) (ei ▸ jx)
  have vj : (rs.map fun z => if z.a ≠ a ∧ par z.a = z.b then z.a else z.b)[j]'(by rw [List.length_map]; exact lj) = b := by
    rw [List.getElem_map]
    exact kid _ (List.getElem_mem lj) (ej ▸ jy)
  rcases Nat.lt_trichotomy i j with z | z | z
  · exact absurd (vi.trans vj.symm) (nd i j _ _ z)
  · exact z
  · exact absurd (vj.trans vi.symm) (nd j i _ _ z)
theorem toll1_none {a b : Int} {x : Road} (h : ¬ Joins x a b) : toll1 a b x = none := by
  unfold toll1
  rw [if_neg (fun z => h (.inl z)), if_neg (fun z => h (.inr ⟨z.2, z.1⟩))]
theorem tollOf_at {m : Int} {rs : List Road} (g : Good m rs) {a b : Int} {i : Nat} {x : Road} (hi : rs[i]? = some x) (j : Joins x a b) : tollOf rs a b = toll1 a b x := by
  have lt := (List.getElem?_eq_some_iff.mp hi)
  obtain ⟨lt, ex⟩ := lt
  have e : rs = rs.take i ++ x :: rs.drop (i + 1) := by rw [← ex, List.getElem_cons_drop, List.take_append_drop]
  have pre : tollOf (rs.take i) a b = none := by
    unfold tollOf
    rw [List.findSome?_eq_none_iff]
    intro y hy
    refine toll1_none fun jy => ?_
    obtain ⟨k, hk⟩ := List.getElem?_of_mem hy
    have lk := (List.getElem?_eq_some_iff.mp hk).1
    rw [List.length_take] at lk
    rw [List.getElem?_take_of_lt (by omega)] at hk
    have := pair_once g hk hi jy j
    omega
  have hx : (toll1 a b x).isSome = true := by
    unfold toll1
    rcases j with z | z
    · rw [if_pos z]; rfl
    · by_cases c : x.a = a ∧ x.b = b
      · rw [if_pos c]; rfl
      · rw [if_neg c, if_pos ⟨z.2, z.1⟩]; rfl
  obtain ⟨v, hv⟩ := Option.isSome_iff_exists.mp hx
  have : tollOf (rs.take i ++ x :: rs.drop (i + 1)) a b = toll1 a b x := by
    unfold tollOf at pre ⊢
    rw [List.findSome?_append, pre, List.findSome?_cons, hv]
    rfl
  rw [← e] at this
  exact this
theorem tollOf_no {rs : List Road} {a b : Int} (h : ¬ Adj rs a b) : tollOf rs a b = none := by
  cases q : tollOf rs a b with
  | none => rfl
  | some v => exact absurd (toll_adj.mp (by rw [q]; rfl)) h
theorem toll_fwd {x : Road} (h : x.a ≠ x.b) : toll1 x.a x.b x = some x.t := by unfold toll1; rw [if_pos ⟨rfl, rfl⟩]
theorem toll_bwd {x : Road} (h : x.a ≠ x.b) : toll1 x.b x.a x = some x.u := by unfold toll1; rw [if_neg (fun z => h z.1), if_pos ⟨rfl, rfl⟩]
theorem nbrs_toll {m : Int} {rs : List Road} (p : Int) : nbrs m rs p = (below m.toNat).filter fun q => (tollOf rs p q).isSome := by
  unfold nbrs
  congr 1
  funext q
  rw [Bool.eq_iff_iff, decide_eq_true_eq, toll_adj, adj_ends]
section
variable {m : Int} {row : List Int} {rs rs' : List Road}
end
end Pb
set_option Elab.async false
set_option linter.all false
set_option maxRecDepth 100000
namespace L2
open PySem PySem.Spec PyProof.Rows
def Quiet (CX : CXT) : Prop := ∀ outer H s e s', ¬ CX outer H s E0 e s'
theorem passQ {CX : CXT} (q : Quiet CX) {X : Cx} : Passes CX X E0 := fun _ _ _ _ _ _ _ h => (q _ _ _ _ _ h).elim
structure Df (K : PySem.W.Frag) (mg : Str → Option Value) (x : Str) (st : Stmt) (ps : List Str) (f : Addr) (fd : FuncData) : Prop where
  F : Fun K x x st f fd
  m : mg x = some (.ref f)
  b : Binds K fd ps []
section
variable {P : Program} {w : World} {K : PySem.W.Frag} {mg : Str → Option Value} {base : Heap} {CX : CXT}
theorem Fun.okC {x qual : Str} {st : Stmt} {f : Addr} {fd : FuncData} {N ps : List Str} {k : Nat} {sp : Sp} (F : Fun K x qual st f fd) (S : FnScope N ps (defScope st)) (len : ∀ vs H Q E, sp vs H Q E → vs.length = ps.length)
    (hbody : ∀ (cdv : Value) (A : Around) (outer : List Env) (s : Shared) (H : Hp) (vs : List V) (Q : VK) (E : XK), Room k (A.deeper (envOfC qual (defScope st) s.heap.objs.size f cdv)) → sp vs H Q E →
      ∃ t, PSs (cxOf CX P w K mg base N qual (defScope st) f cdv A outer s H E).nox (defBody st) t ∧ t { nx := fun _ H' => Q .non H', rt := Q } (start N vs) H) : FnOk P w K mg base CX (k + 1) f fd ps sp := by
  obtain ⟨oc, od, kV, doc, pm, an, cdv, ct, osl, rfl, lk, hcd⟩ := F.ex
  refine fn_of lk hcd S len fun A outer s H vs Q E hr hsp => ?_
  obtain ⟨t, h, q⟩ := hbody cdv A outer s H vs Q E hr hsp
  exact ⟨t, h.nox, q⟩
end
structure NmL (sc : Scope) (x : Str) : Prop where
  l : sc.names.lookup x = some .local
  d : (x == ("__debug__" : Str)) = false
  c : (x == ("__classdict__" : Str)) = false
structure NmC (sc : Scope) (x : Str) : Prop where
  l : sc.names.lookup x = some .cell
  d : (x == ("__debug__" : Str)) = false
  c : (x == ("__classdict__" : Str)) = false
structure NmG (sc : Scope) (x : Str) : Prop where
  g : sc.names.lookup x = some .globalImplicit
  d : (x == ("__debug__" : Str)) = false
  n : x ≠ "__name__"
theorem us1 {us : List Value} (h : us.length = 1) : ∃ a0, us = [a0] := List.length_eq_one_iff.mp h
theorem us2 {us : List Value} (h : us.length = 2) : ∃ a0 a1, us = [a0, a1] := by
  cases us with
  | nil => cases h
  | cons a0 t =>
    obtain ⟨a1, e⟩ := us1 (Nat.succ.inj h)
    subst e
    exact ⟨a0, a1, rfl⟩
theorem us3 {us : List Value} (h : us.length = 3) : ∃ a0 a1 a2, us = [a0, a1, a2] := by
  cases us with
  | nil => cases h
  | cons a0 t =>
    obtain ⟨a1, a2, e⟩ := us2 (Nat.succ.inj h)
    subst e
    exact ⟨a0, a1, a2, rfl⟩
theorem us4 {us : List Value} (h : us.length = 4) : ∃ a0 a1 a2 a3, us = [a0, a1, a2, a3] := by
  cases us with
  | nil => cases h
  | cons a0 t =>
    obtain ⟨a1, a2, a3, e⟩ := us3 (Nat.succ.inj h)
    subst e
    exact ⟨a0, a1, a2, a3, rfl⟩
def nmL (sc : Scope) (x : Str) : Bool := decide (sc.names.lookup x = some .local) && !(x == ("__debug__" : Str)) && !(x == ("__classdict__" : Str))
def nmC (sc : Scope) (x : Str) : Bool := decide (sc.names.lookup x = some .cell) && !(x == ("__debug__" : Str)) && !(x == ("__classdict__" : Str))
def nmG (sc : Scope) (x : Str) : Bool := decide (sc.names.lookup x = some .globalImplicit) && !(x == ("__debug__" : Str)) && !decide (x = "__name__")
theorem NmL.of {sc : Scope} {x : Str} (h : nmL sc x = true) : NmL sc x := by
  unfold nmL at h
  simp only [Bool.and_eq_true, decide_eq_true_eq, Bool.not_eq_true'] at h
  exact ⟨h.1.1, h.1.2, h.2⟩
theorem NmC.of {sc : Scope} {x : Str} (h : nmC sc x = true) : NmC sc x := by
  unfold nmC at h
  simp only [Bool.and_eq_true, decide_eq_true_eq, Bool.not_eq_true'] at h
  exact ⟨h.1.1, h.1.2, h.2⟩
theorem NmG.of {sc : Scope} {x : Str} (h : nmG sc x = true) : NmG sc x := by
  unfold nmG at h
  simp only [Bool.and_eq_true, decide_eq_true_eq, Bool.not_eq_true', decide_eq_false_iff_not] at h
  exact ⟨h.1.1, h.1.2, h.2⟩
def scOk (N ps : List Str) (sc : Scope) : Bool := decide (sc.kind = .function) && !sc.isCoroutine && !sc.isGenerator && decide N.Nodup && decide (N.take ps.length = ps) && (ps.all fun x => decide (sc.names.lookup x = some .local ∨ sc.names.lookup x = some .cell)) && (sc.names.all fun y => decide (y.2 ≠ .free))
theorem FnScope.of {N ps : List Str} {sc : Scope} (h : scOk N ps sc = true) : FnScope N ps sc := by
  unfold scOk at h
  simp only [Bool.and_eq_true, decide_eq_true_eq, Bool.not_eq_true', List.all_eq_true] at h
  obtain ⟨⟨⟨⟨⟨⟨h1, h2⟩, h3⟩, h4⟩, h5⟩, h6⟩, h7⟩ := h
  exact ⟨h1, h2, h3, h4, h5, h6, h7⟩
theorem pvl {X : Cx} (i : Nat) {x : Str} {pos : Pos} (n : NmL X.env.scope x) (hN : X.N[i]? = some x := by rfl) : PE X (.Name x pos) (tVar i) := pe_var hN (.inl n.l) n.d n.c
theorem pvc {X : Cx} (i : Nat) {x : Str} {pos : Pos} (n : NmC X.env.scope x) (hN : X.N[i]? = some x := by rfl) : PE X (.Name x pos) (tVar i) := pe_var hN (.inr (.inl n.l)) n.d n.c
theorem cxOf_K {CX : CXT} {P : Program} {w : World} {K : PySem.W.Frag} {mg : Str → Option Value} {base : Heap} {N : List Str} {qual : Str} {scope : Scope} {f : Addr} {cd : Value} {A : Around} {outer : List Env} {s : Shared} {H : Hp} {E : XK} :
    (cxOf CX P w K mg base N qual scope f cd A outer s H E).K = K := rfl
theorem tNever_eq (D : Ends) (σ : St) (H : Hp) : tNever D σ H = False := rfl
theorem scal_ii (i j : Int) : scal (.int i) (.int j) = true := rfl
theorem scal_bb (i j : Bool) : scal (.bl i) (.bl j) = true := rfl
theorem scal_in (i : Int) : scal (.int i) .non = true := rfl
theorem scal_ni (i : Int) : scal .non (.int i) = true := rfl
theorem scal_nn : scal .non .non = true := rfl
theorem scal_ss (i j : Str) : scal (.str i) (.str j) = true := rfl
theorem ixT {K : PySem.W.Frag} {H : Hp} {p : Addr} {xs : List V} {i : Int} {v : V} {Q : VK} (h : H p = some (.tup xs)) (e : atI xs i = some v) (q : Q v H) : rIxT K (.ref p) (.int i) H Q := ⟨p, xs, i, v, rfl, rfl, SqT.of h, e, q⟩
theorem ixL {K : PySem.W.Frag} {H : Hp} {p : Addr} {xs : List V} {i : Int} {v : V} {Q : VK} (h : H p = some (.lst xs)) (e : atI xs i = some v) (q : Q v H) : rIxL K (.ref p) (.int i) H Q := ⟨p, xs, i, v, rfl, rfl, SqL.of h, e, q⟩
theorem ixS {K : PySem.W.Frag} {H : Hp} {p : Addr} {xs : List V} {i : Int} {v : V} {Q : VK} (h : SqL K H p xs) (e : atI xs i = some v) (q : Q v H) : rIxL K (.ref p) (.int i) H Q := ⟨p, xs, i, v, rfl, rfl, h, e, q⟩
theorem tyL {K : PySem.W.Frag} {H : Hp} {l : Addr} {xs : List V} (h : H l = some (.lst xs)) : tyV K "list" (.ref l) H := .inl ⟨rfl, _, SqL.of h⟩
theorem appR {H : Hp} {l : Addr} {xs : List V} {y : V} {Q : VK} (h : H l = some (.lst xs)) (hz : xs.length < sizeLine) (q : Q .non (upd H l (.lst (xs ++ [y])))) : rAppend (.ref l) [y] H Q := ⟨l, xs, y, rfl, rfl, h, hz, q⟩
theorem insR {H : Hp} {l : Addr} {xs : List V} {i : Int} {y : V} {Q : VK} (h : H l = some (.lst xs)) (h0 : 0 ≤ i) (h1 : i ≤ xs.length) (hz : xs.length < sizeLine) (q : Q .non (upd H l (.lst (xs.take i.toNat ++ y :: xs.drop i.toNat)))) : rInsert (.ref l) [.int i, y] H Q :=
  ⟨l, xs, i, y, rfl, rfl, h, h0, h1, hz, q⟩
theorem popR {H : Hp} {l : Addr} {xs : List V} {y : V} {Q : VK} (h : H l = some (.lst (xs ++ [y]))) (q : Q y (upd H l (.lst xs))) : rPop (.ref l) [] H Q :=
  ⟨l, xs ++ [y], y, rfl, rfl, h, by simp, by rw [List.dropLast_concat]; exact q⟩
theorem small {n : Nat} (h : n ≤ 100000) : n < sizeLine := Nat.lt_of_le_of_lt h (by decide)
theorem smallE {n : Nat} (h : n ≤ 100000) : n ≤ sizeLine := Nat.le_of_lt (small h)
theorem atI_int {α : Type} {xs : List α} {i : Int} {v : α} (h0 : 0 ≤ i) (h : xs[i.toNat]? = some v) : atI xs i = some v := by
  obtain ⟨n, rfl⟩ : ∃ n : Nat, i = n := ⟨i.toNat, by omega⟩
  exact atI_nat (by simpa using h)
theorem pe_globI {X : Cx} {x : Str} {i : Int} {pos : Pos} (hg : Gl X x) (hm : ∃ t, X.mg x = some (.int i t)) (hd : (x == ("__debug__" : Str)) = false := by decide) : PE X (.Name x pos) (tC (.int i)) := by
  obtain ⟨t, e⟩ := hm
  exact pe_glob hg e ⟨t, rfl⟩ hd
def Itx (K : PySem.W.Frag) : Bool → Addr → It
  | true, a => Itl K a
  | false, a => Itt K a
def iAny (K : PySem.W.Frag) (c : Bool) (tl : TE) : TI := fun σ H R => tl σ H fun x H1 => ∃ a, x = .ref a ∧ (∃ xs, SqX K c H1 a xs) ∧ R (Itx K c a) H1
theorem pi_any {X : Cx} {tg l : Expr} {tl : TE} (c : Bool) (hl : PE X l tl) : PI X tg l (iAny X.K c tl) := by
  cases c
  · exact pi_tup hl
  · exact pi_list hl
def CompGo (J : It) (p : Addr) (Q : VK) (g : TG) (tc : TT) (te : TE) (σ0 : St) (H0 : Hp) : Prop :=
  ∃ W : Nat → Nat → List V → St → Hp → Prop, (∃ m, W 0 m [] σ0 H0) ∧ ∀ i m ys σc Hc, W i m ys σc Hc →
    (J.stop i Hc ∧ Q (.ref p) Hc) ∨ (J.go i Hc ∧ ∀ x H', J.yld i Hc x H' → g x σc H' fun σ2 H2 => tc σ2 H2 fun b H3 =>
      if b = true then te σ2 H3 fun y H4 => H4 p = some (.lst ys) ∧ ys.length < sizeLine ∧ ∃ m', m' < m ∧ W (i + 1) m' (ys ++ [y]) σ2 (upd H4 p (.lst (ys ++ [y])))
      else ∃ m', m' < m ∧ W (i + 1) m' ys σ2 H3)
theorem tComp_eq' {own : Nat} {js : List Nat} {wi : TI} {g : TG} {tc : TT} {te : TE} {σ : St} {H : Hp} {Q : VK} : tComp own js wi g tc te σ H Q = wi σ H fun J H1 => ∀ p, H1 p = none → CompGo J p Q g tc te (compStart0 own js σ) (upd H1 p (.lst [])) := rfl
def ForGo (J : It) (D : Ends) (g : TG) (tb : TS) (σ : St) (H : Hp) : Prop := ∃ W : Nat → Nat → St → Hp → Prop, (∃ m, W 0 m σ H) ∧ ∀ i m σ H, W i m σ H →
  (J.stop i H ∧ D.nx σ H) ∨ (J.go i H ∧ ∃ N : St → Hp → Prop, (∀ σ' H', N σ' H' → ∃ m', m' < m ∧ W (i + 1) m' σ' H') ∧ ∀ x H', J.yld i H x H' → g x σ H' fun σ2 H2 => tb { D with nx := N, ct := N, bk := D.nx } σ2 H2)
theorem tFor_eq {wi : TI} {g : TG} {tb : TS} {D : Ends} {σ : St} {H : Hp} : tFor wi g tb D σ H = wi σ H fun J H1 => ForGo J D g tb σ H1 := rfl
theorem comp_any {K : PySem.W.Frag} {c : Bool} {a p : Addr} {xs : List V} {Q : VK} {g : TG} {tc : TT} {te : TE} {σ0 : St} {H0 : Hp} (Pv : Nat → List V → St → Hp → Prop) (h0 : Pv 0 [] σ0 H0) (hl : ∀ i ys σ H, i ≤ xs.length → Pv i ys σ H → SqX K c H a xs)
    (hs : ∀ (i : Nat) (x : V) (ys : List V) (σ : St) (H : Hp) (N : List V → St → Hp → Prop), (∀ ys' σ' H', Pv (i + 1) ys' σ' H' → N ys' σ' H') → xs[i]? = some x → Pv i ys σ H → g x σ H fun σ2 H2 => tc σ2 H2 fun b H3 =>
      if b = true then te σ2 H3 fun y H4 => H4 p = some (.lst ys) ∧ ys.length < sizeLine ∧ N (ys ++ [y]) σ2 (upd H4 p (.lst (ys ++ [y]))) else N ys σ2 H3)
    (hd : ∀ ys σ H, Pv xs.length ys σ H → Q (.ref p) H) : CompGo (Itx K c a) p Q g tc te σ0 H0 := by
  refine ⟨fun i m ys σ H => m = xs.length - i ∧ i ≤ xs.length ∧ Pv i ys σ H, ⟨xs.length, by simp, Nat.zero_le _, h0⟩, ?_⟩
  rintro i m ys σ H ⟨rfl, hi, pv⟩
  have q := hl i ys σ H hi pv
  by_cases hlt : i < xs.length
  · refine .inr ⟨?_, fun x H' y => ?_⟩
    · cases c
      · exact ⟨xs, xs[i], q, by simp [hlt]⟩
      · exact ⟨xs, xs[i], q, by simp [hlt]⟩
    · have e : H' = H ∧ xs[i]? = some x := by
        cases c
        · exact ⟨y.1, y.2 xs q⟩
        · exact ⟨y.1, y.2 xs q⟩
      obtain ⟨rfl, hx⟩ := e
      exact hs i x ys σ _ (fun ys' σ' H' => ∃ m', m' < xs.length - i ∧ (m' = xs.length - (i + 1) ∧ i + 1 ≤ xs.length ∧ Pv (i + 1) ys' σ' H')) (fun ys' σ' H' pv' => ⟨xs.length - (i + 1), by omega, rfl, hlt, pv'⟩) hx pv
  · have e : i = xs.length := by omega
    subst e
    refine .inl ⟨?_, hd ys σ H pv⟩
    cases c
    · exact ⟨xs, q, Nat.le_refl _⟩
    · exact ⟨xs, q, Nat.le_refl _⟩
theorem comp_range {lo : Int} {n : Nat} {p : Addr} {Q : VK} {g : TG} {tc : TT} {te : TE} {σ0 : St} {H0 : Hp} (Pv : Nat → List V → St → Hp → Prop) (h0 : Pv 0 [] σ0 H0)
    (hs : ∀ (i : Nat) (ys : List V) (σ : St) (H : Hp) (N : List V → St → Hp → Prop), (∀ ys' σ' H', Pv (i + 1) ys' σ' H' → N ys' σ' H') → i < n → Pv i ys σ H → g (.int (lo + i)) σ H fun σ2 H2 => tc σ2 H2 fun b H3 =>
      if b = true then te σ2 H3 fun y H4 => H4 p = some (.lst ys) ∧ ys.length < sizeLine ∧ N (ys ++ [y]) σ2 (upd H4 p (.lst (ys ++ [y]))) else N ys σ2 H3)
    (hd : ∀ ys σ H, Pv n ys σ H → Q (.ref p) H) : CompGo (Itr lo n) p Q g tc te σ0 H0 := by
  refine ⟨fun i m ys σ H => m = n - i ∧ i ≤ n ∧ Pv i ys σ H, ⟨n, by simp, Nat.zero_le _, h0⟩, ?_⟩
  rintro i m ys σ H ⟨rfl, hi, pv⟩
  by_cases hlt : i < n
  · refine .inr ⟨hlt, fun x H' y => ?_⟩
    obtain ⟨rfl, rfl⟩ := y
    exact hs i ys σ _ (fun ys' σ' H' => ∃ m', m' < n - i ∧ (m' = n - (i + 1) ∧ i + 1 ≤ n ∧ Pv (i + 1) ys' σ' H')) (fun ys' σ' H' pv' => ⟨n - (i + 1), by omega, rfl, hlt, pv'⟩) hlt pv
  · have e : i = n := by omega
    subst e
    exact .inl ⟨Nat.le_refl _, hd ys σ H pv⟩
theorem pb_len : bootBuiltins "len" = some (.builtin "len") := by decide +kernel
theorem pb_min : bootBuiltins "min" = some (.builtin "min") := by decide +kernel
theorem pb_max : bootBuiltins "max" = some (.builtin "max") := by decide +kernel
theorem pb_sorted : bootBuiltins "sorted" = some (.builtin "sorted") := by decide +kernel
theorem pb_list : bootBuiltins "list" = some (.type "list") := by decide +kernel
theorem pb_tuple : bootBuiltins "tuple" = some (.type "tuple") := by decide +kernel
section
variable {X : Cx} {a b o e : Expr} {es : List Expr} {ta tb to : TE} {t : TA} {pos apos cpos : Pos} {f name : Str} {T id : String} {r : V → List V → Hp → VK → Prop}
theorem call_tuple_ofK (K : PySem.W.Frag) (h : X.K = K) : CallR X (.type "tuple") (fun xs H Q => ∃ p ys, xs = [.ref p] ∧ ((SqL K H p ys ∧ ∀ l, H l = none → Q (.ref l) (upd H l (.tup ys))) ∨ (SqT K H p ys ∧ Q (.ref p) H))) := by subst h; exact call_tuple_of
theorem call_list_ofK (K : PySem.W.Frag) (h : X.K = K) : CallR X (.type "list") (fun xs H Q => ∃ p ys, xs = [.ref p] ∧ (SqL K H p ys ∨ SqT K H p ys) ∧ ∀ l, H l = none → Q (.ref l) (upd H l (.lst ys))) := by subst h; exact call_list_of
theorem ix_listK (K : PySem.W.Frag) (h : X.K = K) : IxR X (rIxL K) := by subst h; exact ix_list
theorem ix_tupK (K : PySem.W.Frag) (h : X.K = K) : IxR X (rIxT K) := by subst h; exact ix_tup
end
theorem lookup_mem {x : Str} {k : NameKind} : ∀ {l : List (Str × NameKind)}, l.lookup x = some k → ∃ y, (y, k) ∈ l
  | [], h => by simp at h
  | (n, j) :: r, h => by
    rw [List.lookup_cons] at h
    cases q : x == n with
    | true =>
      rw [q] at h
      cases h
      exact ⟨n, List.mem_cons_self⟩
    | false =>
      rw [q] at h
      obtain ⟨y, hy⟩ := lookup_mem h
      exact ⟨y, List.mem_cons_of_mem _ hy⟩
theorem ct_plain {X : Cx} {Nc : List Str} {scope : Scope} (own : Nat) (hf : ∀ y ∈ scope.names, y.2 ≠ .free) (hc : ∀ y ∈ scope.names, y.2 ≠ .cell) (hk : scope.kind = .function) (hn : ∀ y ∈ scope.names, y.2 = .local → scope.names.lookup y.1 = some .local)
    (hl : Nc.length = own) : CompTxt X Nc own [] scope [] where
  clos := closureFor_none hf
  kind := hk
  nocell := hc
  names := hn
  cells := fun x c h => by cases h
  has := fun x h => by
    have key : ∀ k, (relabel scope X.env).names.lookup x = some k → k ≠ .cell ∧ k ≠ .free := fun k e => by
      obtain ⟨y, hy⟩ := lookup_mem e
      obtain ⟨⟨n, k0⟩, hm, e2⟩ := List.mem_map.mp hy
      have h1 := hf _ hm
      have h2 := hc _ hm
      have e3 : (k0 == NameKind.free) = false := by simpa using h1
      simp only [e3, Bool.false_and, Bool.false_eq_true, if_false] at e2
      cases e2
      exact ⟨h2, h1⟩
    rcases h with h | h
    · exact absurd rfl (key _ h).1
    · exact absurd rfl (key _ h).2
  len := by simpa using hl
  outer := fun i x h => by
    rw [List.getElem?_eq_none (by omega)] at h
    cases h
theorem for_listN {K : PySem.W.Frag} {a : Addr} {xs : List V} {g : TG} {tb : TS} {D : Ends} {σ : St} {H : Hp} (Pv : Nat → St → Hp → Prop) (h0 : Pv 0 σ H) (hl : ∀ i σ H, i ≤ xs.length → Pv i σ H → SqL K H a xs)
    (hs : ∀ (i : Nat) (x : V) (σ : St) (H : Hp) (N : St → Hp → Prop), (∀ σ' H', Pv (i + 1) σ' H' → N σ' H') → xs[i]? = some x → Pv i σ H → g x σ H fun σ2 H2 => tb { D with nx := N, ct := N, bk := D.nx } σ2 H2) (hd : ∀ σ H, Pv xs.length σ H → D.nx σ H) :
    ForGo (Itl K a) D g tb σ H := for_list Pv h0 hl (fun i x σ H hx p => hs i x σ H (Pv (i + 1)) (fun _ _ z => z) hx p) hd
theorem for_tupN {K : PySem.W.Frag} {a : Addr} {xs : List V} {g : TG} {tb : TS} {D : Ends} {σ : St} {H : Hp} (Pv : Nat → St → Hp → Prop) (h0 : Pv 0 σ H) (hl : ∀ i σ H, i ≤ xs.length → Pv i σ H → SqT K H a xs)
    (hs : ∀ (i : Nat) (x : V) (σ : St) (H : Hp) (N : St → Hp → Prop), (∀ σ' H', Pv (i + 1) σ' H' → N σ' H') → xs[i]? = some x → Pv i σ H → g x σ H fun σ2 H2 => tb { D with nx := N, ct := N, bk := D.nx } σ2 H2) (hd : ∀ σ H, Pv xs.length σ H → D.nx σ H) :
    ForGo (Itt K a) D g tb σ H := for_tup Pv h0 hl (fun i x σ H hx p => hs i x σ H (Pv (i + 1)) (fun _ _ z => z) hx p) hd
theorem for_rangeN {lo : Int} {n : Nat} {g : TG} {tb : TS} {D : Ends} {σ : St} {H : Hp} (Pv : Nat → St → Hp → Prop) (h0 : Pv 0 σ H)
    (hs : ∀ (i : Nat) (σ : St) (H : Hp) (N : St → Hp → Prop), (∀ σ' H', Pv (i + 1) σ' H' → N σ' H') → i < n → Pv i σ H → g (.int (lo + i)) σ H fun σ2 H2 => tb { D with nx := N, ct := N, bk := D.nx } σ2 H2) (hd : ∀ σ H, Pv n σ H → D.nx σ H) :
    ForGo (Itr lo n) D g tb σ H := for_range Pv h0 (fun i σ H hi p => hs i σ H (Pv (i + 1)) (fun _ _ z => z) hi p) hd
theorem while_n {c : TT} {tb : TS} {D : Ends} {σ : St} {H : Hp} (W : Nat → St → Hp → Prop) (n0 : Nat) (h0 : W n0 σ H)
    (hs : ∀ (n : Nat) (σ : St) (H : Hp) (N : St → Hp → Prop), (∀ n' σ' H', n' < n → W n' σ' H' → N σ' H') → (∀ σ' H', N σ' H' → ∃ m', m' < n ∧ W m' σ' H') → W n σ H →
      c σ H fun b H1 => if b = true then ∃ N : St → Hp → Prop, (∀ σ' H', N σ' H' → ∃ m', m' < n ∧ W m' σ' H') ∧ tb { D with nx := N, ct := N, bk := D.nx } σ H1 else D.nx σ H1) : tWhile c tb D σ H :=
  ⟨W, ⟨n0, h0⟩, fun n σ H w => hs n σ H (fun σ' H' => ∃ m', m' < n ∧ W m' σ' H') (fun n' _ _ hn w' => ⟨n', hn, w'⟩) (fun _ _ z => z) w⟩
theorem bits_le {a : Int} {n : Nat} (h : a.natAbs < 2 ^ n) : Builtin.Int.intBits a ≤ n := by
  unfold Builtin.Int.intBits
  by_cases z : a = 0
  · subst z; simp
  · have hz : (a == 0) = false := by simpa using z
    rw [hz]
    simp only [Bool.false_eq_true, if_false]
    have := (Nat.log2_lt (by omega)).mpr h
    omega
theorem mul_ok {a b : Int} (ha : a.natAbs < 2 ^ 4000) (hb : b.natAbs < 2 ^ 4000) : IntMulOk a b :=
  IntMulOk.of_bits (Nat.le_trans (bits_le ha) (by decide)) (Nat.le_trans (bits_le hb) (by decide))
open Pb
def vRoad (r : Road) : List V := [.int r.a, .int r.b, .int r.t, .int r.u]
abbrev RoadsAt (H : Hp) : List Addr → List Road → Prop := Paired fun p r => H p = some (.tup (vRoad r))
theorem RoadsAt.same {H H' : Hp} (e : Same H H') {ps : List Addr} {rs : List Road} (h : RoadsAt H ps rs) : RoadsAt H' ps rs := Paired.imp' (fun p r q => e p _ q) h
theorem RoadsAt.get {H : Hp} : ∀ {ps : List Addr} {rs : List Road} {i : Nat} {x : V}, RoadsAt H ps rs → (ps.map V.ref)[i]? = some x → ∃ p r, x = .ref p ∧ ps[i]? = some p ∧ rs[i]? = some r ∧ H p = some (.tup (vRoad r))
  | _, _, i, x, .nil, e => by simp at e
  | _, _, 0, x, .cons (a := p) (b := r) h hs, e => ⟨p, r, by simpa using e.symm, by simp, by simp, h⟩
  | a :: l1, _, i + 1, x, .cons h hs, e => by
    have e' : (List.map V.ref l1)[i]? = some x := by simpa using e
    obtain ⟨p, r, h1, h2, h3, h4⟩ := RoadsAt.get hs e'
    exact ⟨p, r, h1, by simpa using h2, by simpa using h3, h4⟩
theorem Same.tup {K : PySem.W.Frag} {H H' : Hp} {a : Addr} {xs : List V} (e : Same H H') (h : SqT K H a xs) : SqT K H' a xs := by
  rcases h with (h | ⟨o, h⟩) | h
  · exact .inl (.inl (e _ _ h))
  · exact .inl (.inr ⟨o, e _ _ h⟩)
  · exact .inr h
theorem Same.sqX {K : PySem.W.Frag} {H H' : Hp} {c : Bool} {a : Addr} {xs : List V} (e : Same H H') (h : SqX K c H a xs) : SqX K c H' a xs := by
  cases c
  · exact Same.tup e h
  · exact Same.seq e h
theorem Same.new {H : Hp} {p : Addr} (o : HO) (h : H p = none) : Same H (upd H p o) := fun b u e => by rw [upd_ne (ne_of_none e h)]; exact e
end L2
set_option Elab.async false
set_option linter.all false
set_option maxRecDepth 100000
namespace L2
open PySem PySem.Spec PyProof.Rows
abbrev bmV : List Value := [.type "ValueError", .type "Exception", .type "BaseException", .type "object"]
section
variable {prog : Program} {w : World} {A : Around} {E : Value → Shared → Prop} {s : Shared} {K : PySem.W.Frag} {x C : Addr} {ox : Obj} {od : Option Obj}
end
end L2
set_option Elab.async false
set_option linter.all false
set_option maxRecDepth 100000
namespace L2
open PySem PySem.Spec PyProof.Rows
def ErrO (h : Heap) (ea : Addr) (cls : Value) (od : Option Addr) (head : Value) : Prop := ∃ oe vs, h.get? ea = some oe ∧ oe.cls = cls ∧ oe.dict = od ∧ oe.data = .fields vs ∧ vs[1]? = some head
def TbO (h : Heap) (T : Addr) (fl : Value) : Prop := ∃ oT ts, h.get? T = some oT ∧ oT.data = .fields ts ∧ ts[3]? = some fl
structure Err (h : Heap) (ea T : Addr) (cls : Value) (od : Option Addr) (fl : Value) : Prop where
  e : ErrO h ea cls od (.ref T)
  t : TbO h T fl
  ne : T ≠ ea
structure Kept (fs xs : List Addr) (h h' : Heap) : Prop where
  keep : ∀ b o, h.get? b = some o → b ∉ fs → b ∉ xs → h'.get? b = some o
  slot : ∀ b o, h.get? b = some o → b ∈ fs → b ∉ xs → ∃ sl, h'.get? b = some { o with slots := sl }
  there : ∀ b o, h.get? b = some o → ∃ o', h'.get? b = some o'
theorem Kept.mono {fs xs ys : List Addr} {h h' : Heap} (k : Kept fs xs h h') (s : ∀ b ∈ xs, b ∈ ys) : Kept fs ys h h' := ⟨fun b o e f x => k.keep b o e f fun z => x (s b z), fun b o e f x => k.slot b o e f fun z => x (s b z), k.there⟩
theorem Kept.trans {fs xs : List Addr} {h h1 h2 : Heap} (a : Kept fs xs h h1) (b : Kept fs xs h1 h2) : Kept fs xs h h2 where
  keep := fun c o e f x => b.keep c o (a.keep c o e f x) f x
  slot := fun c o e f x => by
    obtain ⟨s1, e1⟩ := a.slot c o e f x
    obtain ⟨s2, e2⟩ := b.slot c _ e1 f x
    exact ⟨s2, e2⟩
  there := fun c o e => by
    obtain ⟨o1, e1⟩ := a.there c o e
    exact b.there c o1 e1
theorem Kept.of_all {fs xs : List Addr} {h h' : Heap} (k : ∀ b o, h.get? b = some o → h'.get? b = some o) : Kept fs xs h h' := ⟨fun b o e _ _ => k b o e, fun b o e _ _ => ⟨o.slots, k b o e⟩, fun b o e => ⟨o, k b o e⟩⟩
theorem kept_set {fs xs : List Addr} {h : Heap} {a : Addr} {oa : Obj} {vs : Array Value} {i : Nat} {v : Value} (ha : h.get? a = some oa) (hd : oa.data = .fields vs) (hx : a ∈ xs) : Kept fs xs h (h.update a (Obj.mapFields (·.setIfInBounds i v))) := by
  have oth : ∀ b o, h.get? b = some o → b ∉ xs → (h.update a (Obj.mapFields (·.setIfInBounds i v))).get? b = some o := fun b o e x => by
    rw [Heap.get?_update_other _ _ (fun (z : a = b) => x (z ▸ hx))]
    exact e
  refine ⟨fun b o e _ x => oth b o e x, fun b o e _ x => ⟨o.slots, oth b o e x⟩, fun b o e => ?_⟩
  by_cases z : b = a
  · subst z
    exact ⟨_, Heap.get?_update_self _ ha (Obj.isFreed_of_fields (Obj.data_mapFields hd _))⟩
  · rw [Heap.get?_update_other _ _ (Ne.symm z)]
    exact ⟨o, e⟩
theorem errO_set {h : Heap} {ea : Addr} {cls hd v : Value} {od : Option Addr} (e : ErrO h ea cls od hd) : ErrO (h.update ea (Obj.mapFields (·.setIfInBounds 1 v))) ea cls od v := by
  obtain ⟨oe, vs, h1, h2, h3, h4, h5⟩ := e
  have sz : 1 < vs.size := (Array.getElem?_eq_some_iff.mp h5).1
  refine ⟨_, _, Heap.get?_update_self _ h1 (Obj.isFreed_of_fields (Obj.data_mapFields h4 _)), ?_, ?_, Obj.data_mapFields h4 _, by simp [sz]⟩
  · rw [← h2]; exact Obj.cls_mapFields _ _
  · rw [← h3]; obtain ⟨c, d, dt, sl⟩ := oe; cases dt <;> rfl
theorem errO_other {h : Heap} {ea a : Addr} {cls hd : Value} {od : Option Addr} {f : Obj → Obj} (e : ErrO h ea cls od hd) (ne : a ≠ ea) : ErrO (h.update a f) ea cls od hd := by
  obtain ⟨oe, vs, h1, h2⟩ := e
  exact ⟨oe, vs, by rw [Heap.get?_update_other _ _ ne]; exact h1, h2⟩
theorem errO_keep {h h' : Heap} {ea : Addr} {cls hd : Value} {od : Option Addr} (e : ErrO h ea cls od hd) (k : ∀ o, h.get? ea = some o → h'.get? ea = some o) : ErrO h' ea cls od hd := by
  obtain ⟨oe, vs, h1, h2⟩ := e
  exact ⟨oe, vs, k _ h1, h2⟩
theorem errO_nofr {h base : Heap} {ea : Addr} {cls hd : Value} {od : Option Addr} {l : List Env} (e : ErrO h ea cls od hd) (f : h.FunFrames base l) : ea ∉ frs l := fun z => by
  obtain ⟨oe, vs, h1, _, _, h4, _⟩ := e
  obtain ⟨_, o, ho, hn⟩ := f.mem z
  rw [h1] at ho
  cases ho
  exact hn vs h4
theorem tbO_nofr {h base : Heap} {T : Addr} {fl : Value} {l : List Env} (e : TbO h T fl) (f : h.FunFrames base l) : T ∉ frs l := fun z => by
  obtain ⟨oe, vs, h1, h4, _⟩ := e
  obtain ⟨_, o, ho, hn⟩ := f.mem z
  rw [h1] at ho
  cases ho
  exact hn vs h4
section
variable {M : Model} {A : Around} {E : Value → Shared → Prop} {s : Shared} {Q : Unit → Shared → Prop} {fs : List Addr} {ea T L : Addr} {cls fl hd : Value} {od : Option Addr} {base : Heap} {env : Env} {outer : List Env}
theorem st_land (r : Err s.heap ea T cls od fl) (h : ∀ h', Err h' ea T cls od .none → Kept fs [T] s.heap h' → Q () { s with heap := h' }) : wpAny M A (setFlight (.ref ea) none) Q E s := by
  obtain ⟨⟨oe, vs, h1, h2, h3, h4, h5⟩, ⟨oT, ts, t1, t2, t3⟩, ne⟩ := r
  have sz : 3 < ts.size := (Array.getElem?_eq_some_iff.mp t3).1
  unfold setFlight
  refine wpAny_bind (wpAny_field h1 h4 h5 ?_)
  rw [if_pos (by simp : (Value.ref T != Value.none) = true)]
  refine wpAny_setField t1 t2 sz (h _ ⟨errO_other ⟨oe, vs, h1, h2, h3, h4, h5⟩ ne, ⟨_, _, Heap.get?_update_self _ t1 (Obj.isFreed_of_fields (Obj.data_mapFields t2 _)), Obj.data_mapFields t2 _, by simp [sz]⟩, ne⟩ (kept_set t1 t2 (by simp)))
theorem st_entry {head : Value} {hadNext : Bool} (hfr : A.frames = some (env :: outer)) (hl : s.heap.FunFrames base (env :: outer)) (hf : env.frame = some L) (r : ErrO s.heap ea cls od hd)
    (h : ∀ h' T', Err h' ea T' cls od (rawInt L) → Kept (frs (env :: outer)) [ea] s.heap h' → s.heap.get? T' = none → Q () { s with heap := h' }) :
    wpAny M A (do let a ← frameOf env; let pl ← entryPlaceOf L hadNext; let b ← EntryCells.newEntry head a .none (rawInt L) .none pl; setField (.ref ea) 1 b) Q E s := by
  have nf := errO_nofr r hl
  refine wpAny_bind (wpAny_frameOf_fun hfr hl hf fun g1 so => wpAny_bind (wpAny_entryPlaceOf fun pl hpl => ?_))
  unfold EntryCells.newEntry newFields
  refine wpAny_bind (wpAny_newObj_type ?_ (hpl.sizeOk5 _ _ _ _ _))
  have r1 : ErrO g1 ea cls od hd := errO_keep r fun o e => (so.2.1 ea nf).trans e
  generalize ht : ({ cls := .type "traceback", dict := none, data := .fields ([head, .ref L, .none, rawInt L, .none] ++ (if pl.isEmpty then List.replicate 6 Value.none else pl)).toArray } : Obj) = tb
  have r2 : ErrO (g1.push tb) ea cls od hd := errO_keep r1 fun o e => Heap.get?_push_of_some _ e
  obtain ⟨oe, vs, e1, e2, e3, e4, e5⟩ := id r2
  have lt : ea < g1.objs.size := by
    obtain ⟨_, _, e, _⟩ := r1
    exact Heap.lt_size e
  have hT : (g1.push tb).get? g1.objs.size = some tb := Heap.get?_push_size g1 (by rw [← ht]; rfl)
  refine wpAny_setField e1 e4 (Array.getElem?_eq_some_iff.mp e5).1 (h _ g1.objs.size ⟨errO_set r2, ⟨tb, ([head, .ref L, .none, rawInt L, .none] ++ (if pl.isEmpty then List.replicate 6 Value.none else pl)).toArray, ?_, by rw [← ht], by simp⟩, Nat.ne_of_gt lt⟩ ?_ ?_)
  · rw [Heap.get?_update_other _ _ (Nat.ne_of_lt lt)]
    exact hT
  · have k1 : Kept (frs (env :: outer)) [ea] s.heap g1 := ⟨fun b o e f _ => (so.2.1 b f).trans e, fun b o e _ _ => so.2.2 b o e, fun b o e => by
      obtain ⟨sl, z⟩ := so.2.2 b o e
      exact ⟨_, z⟩⟩
    exact k1.trans ((Kept.of_all fun b o e => Heap.get?_push_of_some _ e).trans (kept_set e1 e4 (by simp)))
  · exact Heap.get?_none_of_le (by rw [so.1]; exact Nat.le_refl _)
theorem st_first (hfr : A.frames = some (env :: outer)) (hl : s.heap.FunFrames base (env :: outer)) (hf : env.frame = some L) (r : ErrO s.heap ea cls od .none)
    (h : ∀ h' T', Err h' ea T' cls od (rawInt L) → Kept (frs (env :: outer)) [ea] s.heap h' → s.heap.get? T' = none → Q () { s with heap := h' }) : wpAny M A (noteFrame (.ref ea) env) Q E s := by
  obtain ⟨oe, vs, e1, e2, e3, e4, e5⟩ := id r
  unfold noteFrame
  simp only [hf]
  refine wpAny_bind (wpAny_field e1 e4 e5 ?_)
  rw [if_neg (by decide)]
  exact st_entry hfr hl hf r h
theorem st_next (hfr : A.frames = some (env :: outer)) (hl : s.heap.FunFrames base (env :: outer)) (hf : env.frame = some L) (r : Err s.heap ea T cls od .none)
    (h : ∀ h' T', Err h' ea T' cls od (rawInt L) → Kept (frs (env :: outer)) [ea, T] s.heap h' → s.heap.get? T' = none → Q () { s with heap := h' }) : wpAny M A (noteFrame (.ref ea) env) Q E s := by
  have nT := tbO_nofr r.t hl
  obtain ⟨⟨oe, vs, e1, e2, e3, e4, e5⟩, ⟨oT, ts, t1, t2, t3⟩, ne⟩ := id r
  unfold noteFrame
  simp only [hf]
  refine wpAny_bind (wpAny_field e1 e4 e5 ?_)
  rw [if_pos (by simp : (Value.ref T != Value.none) = true)]
  refine wpAny_bind (wpAny_field t1 t2 t3 ?_)
  rw [if_neg (by simp [rawInt])]
  have k1 : Kept (frs (env :: outer)) [ea, T] s.heap (s.heap.update T (Obj.mapFields (·.setIfInBounds 3 Value.none))) := kept_set t1 t2 (by simp)
  refine wpAny_bind (wpAny_setField t1 t2 (Array.getElem?_eq_some_iff.mp t3).1 ?_)
  refine st_entry hfr (hl.of_keeps fun b o e nf => ⟨o, ?_, rfl⟩) hf (errO_other r.e ne) fun h' T' r' k2 n => h h' T' r' (k1.trans (k2.mono (by simp))) ?_
  · by_cases z : b = T
    · subst z
      rw [t1] at e
      cases e
      exact absurd t2 (nf ts)
    · rw [Heap.get?_update_other _ _ (Ne.symm z)]
      exact e
  · cases q : s.heap.get? T' with
    | none => rfl
    | some o =>
      obtain ⟨o', z⟩ := k1.there T' o q
      rw [z] at n
      cases n
theorem st_leave1 (hfr : A.frames = some (env :: outer)) (hl : s.heap.FunFrames base (env :: outer)) (hf : env.frame = some L) (r : ErrO s.heap ea cls od .none)
    (h : ∀ h' T', Err h' ea T' cls od .none → Kept (frs (env :: outer)) [ea] s.heap h' → s.heap.get? T' = none → Q () { s with heap := h' }) : wpAny M A (leaving env (.ref ea)) Q E s := by
  unfold leaving
  refine wpAny_bind (st_first hfr hl hf r fun h1 T1 r1 k1 n1 => st_land (fs := frs (env :: outer)) (s := { s with heap := h1 }) r1 fun h2 r2 k2 => h h2 T1 r2 ⟨fun b o e f x => k2.keep b o (k1.keep b o e f x) f ?_, fun b o e f x => ?_, fun b o e => ?_⟩ n1)
  · simp only [List.mem_singleton]
    rintro rfl
    rw [n1] at e
    cases e
  · obtain ⟨s1, e1⟩ := k1.slot b o e f x
    obtain ⟨s2, e2⟩ := k2.slot b _ e1 f (by
      simp only [List.mem_singleton]
      rintro rfl
      rw [n1] at e
      cases e)
    exact ⟨s2, e2⟩
  · obtain ⟨o1, e1⟩ := k1.there b o e
    exact k2.there b o1 e1
theorem st_leave (hfr : A.frames = some (env :: outer)) (hl : s.heap.FunFrames base (env :: outer)) (hf : env.frame = some L) (r : Err s.heap ea T cls od .none)
    (h : ∀ h' T', Err h' ea T' cls od .none → Kept (frs (env :: outer)) [ea, T] s.heap h' → s.heap.get? T' = none → Q () { s with heap := h' }) : wpAny M A (leaving env (.ref ea)) Q E s := by
  unfold leaving
  refine wpAny_bind (st_next hfr hl hf r fun h1 T1 r1 k1 n1 => st_land (fs := frs (env :: outer)) (s := { s with heap := h1 }) r1 fun h2 r2 k2 => h h2 T1 r2 ⟨fun b o e f x => k2.keep b o (k1.keep b o e f x) f ?_, fun b o e f x => ?_, fun b o e => ?_⟩ n1)
  · simp only [List.mem_singleton]
    rintro rfl
    rw [n1] at e
    cases e
  · obtain ⟨s1, e1⟩ := k1.slot b o e f x
    obtain ⟨s2, e2⟩ := k2.slot b _ e1 f (by
      simp only [List.mem_singleton]
      rintro rfl
      rw [n1] at e
      cases e)
    exact ⟨s2, e2⟩
  · obtain ⟨o1, e1⟩ := k1.there b o e
    exact k2.there b o1 e1
end
def CXe (P : Program) (w : World) : CXT := fun outer H s E e s' => ∃ (ea T : Addr) (cls : Value) (od : Option Addr) (H' : Hp), e = .ref ea ∧ s'.os = s.os ∧ AllBare s'.gens ∧ Un (frs outer) [] H H' s.heap s'.heap ∧ HOk P w H' s'.heap ∧
  H' ea = none ∧ H' T = none ∧ s.heap.get? ea = none ∧ s.heap.get? T = none ∧ Err s'.heap ea T cls od .none ∧ E cls od H'
theorem quietE {P : Program} {w : World} : Quiet (CXe P w) := fun outer H s e s' h => by
  obtain ⟨_, _, _, _, _, _, _, _, _, _, _, _, _, _, _, z⟩ := h
  exact z
theorem kept_hok {P : Program} {w : World} {H : Hp} {h h' : Heap} {fs xs : List Addr} (x : HOk P w H h) (k : Kept fs xs h h') (f : ∀ b ∈ fs, H b = none) (u : ∀ b ∈ xs, H b = none) : HOk P w H h' := fun a o e => by
  refine (x a o e).stay (fun b ob hb q => k.keep b ob q ?_ ?_) (fun _ q => q) fun _ _ q => q
  · intro z
    rcases hb with rfl | hb
    · rw [f _ z] at e; cases e
    · rw [f _ z] at hb; cases hb
  · intro z
    rcases hb with rfl | hb
    · rw [u _ z] at e; cases e
    · rw [u _ z] at hb; cases hb
theorem untr {P : Program} {w : World} {H : Hp} {h : Heap} {b : Addr} (x : HOk P w H h) (n : h.get? b = none) : H b = none := by
  cases q : H b with
  | none => rfl
  | some o =>
    have lt := x.lt q
    cases z : h.get? b with
    | some o' => rw [z] at n; cases n
    | none =>
      exfalso
      have := (x b o q)
      cases o with
      | lst xs => obtain ⟨_, _, _, _, e⟩ := this; rw [n] at e; cases e
      | tup xs => obtain ⟨_, _, _, ob, e, _⟩ := this; rw [n] at e; cases e
      | dK kvs => obtain ⟨_, _, _, _, ob, _, _, e, _⟩ := this; rw [n] at e; cases e
      | dT kvs => obtain ⟨_, _, _, _, ob, _, _, e, _⟩ := this; rw [n] at e; cases e
      | set S m => obtain ⟨ob, _, _, _, e, _⟩ := this; rw [n] at e; cases e
      | ins C dx fs => obtain ⟨_, _, _, e, _⟩ := this; rw [n] at e; cases e
      | own y => obtain ⟨_, e⟩ := this; rw [n] at e; cases e
      | xd fs => obtain ⟨_, ⟨_, _, _, e, _⟩, _⟩ := this; rw [n] at e; cases e
      | rng lo hi => obtain ⟨_, _, _, e⟩ := this; rw [n] at e; cases e
      | frz ob u => obtain ⟨e, _⟩ := this; rw [n] at e; cases e
      | tbl ps => have e : h.get? b = some _ := this; rw [n] at e; cases e
      | met f y => have e : h.get? b = some _ := this; rw [n] at e; cases e
      | ext φ => obtain ⟨_, ⟨_, e⟩, _⟩ := this; rw [n] at e; cases e
section
variable {P : Program} {w : World} {K : PySem.W.Frag} {mg : Str → Option Value} {base : Heap} {N : List Str} {qual : Str} {scope : Scope} {f : Addr} {cd : Value} {A : Around} {outer : List Env} {s : Shared} {H : Hp} {E : XK}
theorem un_leave {CX : CXT} {pins : List (Addr × Obj)} {σ : St} {H' : Hp} {s' : Shared} {h' : Heap} {xs : List Addr} (J : Inv (cxOf CX P w K mg base N qual scope f cd A outer s H E) pins σ H' s') (k : Kept (frs (envOfC qual scope s.heap.objs.size f cd :: outer)) xs s'.heap h') (nx : ∀ b ∈ xs, s.heap.get? b = none) :
    Un (frs outer) [] H H' s.heap h' := by
  have b0 : Un (frs outer) [] H H' s.heap s'.heap := J.base
  have nl : ∀ b o, s.heap.get? b = some o → b ∉ xs := fun b o e z => by rw [nx b z] at e; cases e
  have nf : ∀ b o, s.heap.get? b = some o → b ∉ frs outer → b ∉ frs (envOfC qual scope s.heap.objs.size f cd :: outer) := fun b o e z m => by
    unfold frs at m z
    rw [List.filterMap_cons] at m
    have : (envOfC qual scope s.heap.objs.size f cd).frame = some s.heap.objs.size := rfl
    rw [this] at m
    rcases List.mem_cons.mp m with m | m
    · exact absurd (Heap.lt_size e) (by rw [m]; exact Nat.lt_irrefl _)
    · exact z m
  refine ⟨fun b o e n hf hx => k.keep b o (b0.keep b o e n hf hx) (nf b o e hf) (nl b o e), fun b o e n hf hx => ?_, b0.free, fun b o e hx => ?_, b0.tups, b0.frzs, b0.tbls⟩
  · obtain ⟨sl, e1⟩ := b0.slot b o e n hf hx
    by_cases m : b ∈ frs (envOfC qual scope s.heap.objs.size f cd :: outer)
    · obtain ⟨s2, e2⟩ := k.slot b _ e1 m (nl b o e)
      exact ⟨s2, e2⟩
    · exact ⟨sl, k.keep b _ e1 m (nl b o e)⟩
  · obtain ⟨o1, e1⟩ := b0.there b o e hx
    exact k.there b o1 e1
theorem inv_old {CX : CXT} {pins : List (Addr × Obj)} {σ : St} {H' : Hp} {s' : Shared} (J : Inv (cxOf CX P w K mg base N qual scope f cd A outer s H E) pins σ H' s') {b : Addr} (n : s'.heap.get? b = none) : s.heap.get? b = none := by
  cases q : s.heap.get? b with
  | none => rfl
  | some o =>
    have b0 : Un (frs outer) [] H H' s.heap s'.heap := J.base
    obtain ⟨o', e⟩ := b0.there b o q (by simp)
    rw [n] at e
    cases e
theorem passX : Passes (CXe P w) (cxOf (CXe P w) P w K mg base N qual scope f cd A outer s H E) E := by
  intro pins σ H1 s1 e s' I h
  obtain ⟨ea, T, cls, od, H', rfl, os, bare, un, hok, n1, n2, f1, f2, er, q⟩ := h
  have J := I.call' (ch := []) os un hok bare (by simp)
  refine st_leave (base := base) J.ok.frames J.stack rfl er fun h' T' er' k nT => ?_
  have fr : ∀ b ∈ frs (envOfC qual scope s.heap.objs.size f cd :: outer), H' b = none := J.stkFree
  refine ⟨ea, T', cls, od, H', rfl, J.os, J.bare, un_leave J k ?_, kept_hok hok k fr ?_, n1, untr hok nT, inv_old I f1, inv_old J nT, er', q⟩
  · intro b hb
    simp only [List.mem_cons, List.not_mem_nil, or_false] at hb
    rcases hb with rfl | rfl
    · exact inv_old I f1
    · exact inv_old I f2
  · intro b hb
    simp only [List.mem_cons, List.not_mem_nil, or_false] at hb
    rcases hb with rfl | rfl
    · exact n1
    · exact n2
end
def Raises (X : Cx) (E : XK) : Prop := ∀ (pins : List (Addr × Obj)) (σ : St) (H : Hp) (s : Shared) (ea : Addr) (cls : Value) (od : Option Addr) (h' : Heap) (tk : Nat), Inv X pins σ H s → (∀ b o, s.heap.get? b = some o → h'.get? b = some o) → s.heap.get? ea = none → ErrO h' ea cls od .none → E cls od H →
  X.xe (.ref ea) { s with heap := h', toks := tk }
section
variable {P : Program} {w : World} {K : PySem.W.Frag} {mg : Str → Option Value} {base : Heap} {N : List Str} {qual : Str} {scope : Scope} {f : Addr} {cd : Value} {A : Around} {outer : List Env} {s : Shared} {H : Hp} {E : XK}
theorem raisesX : Raises (cxOf (CXe P w) P w K mg base N qual scope f cd A outer s H E) E := by
  intro pins σ H1 s1 ea cls od h' tk I kp nw er q
  have J := I.kept (t' := tk) kp
  refine st_leave1 (base := base) J.ok.frames J.stack rfl er fun h2 T' er' k nT => ?_
  have fr : ∀ b ∈ frs (envOfC qual scope s.heap.objs.size f cd :: outer), H1 b = none := J.stkFree
  refine ⟨ea, T', cls, od, H1, rfl, J.os, J.bare, un_leave J k ?_, kept_hok J.hok k fr ?_, untr I.hok nw, untr J.hok nT, inv_old I nw, inv_old J nT, er', q⟩
  · intro b hb
    rw [List.mem_singleton.mp hb]
    exact inv_old I nw
  · intro b hb
    rw [List.mem_singleton.mp hb]
    exact untr I.hok nw
end
end L2
set_option Elab.async false
set_option linter.all false
set_option maxRecDepth 100000
namespace L2
open PySem PySem.Spec PyProof.Rows
def XObj (K : PySem.W.Frag) (C : Addr) : Prop := ∃ (nm qn : Str) (N : Addr) (bs bm : List Value) (hdct : Bool) (sn : List Str) (sub : List Value) (ab : Bool) (col : Option Bool) (dd : Option Addr) (k0 k1 k2 k3 k5 : Option Value),
    K.lookup C = some (excClassObj nm qn C N bs bm hdct sn sub ab col dd k0 k1 k2 k3 k5 "ValueError.__new__") ∧ PySem.W.nsOkIn K N = true ∧ PySem.W.nsIn K N "__init__" = some none ∧ PySem.W.tailIn K bmV bm = true
theorem xobj_mk {K : PySem.W.Frag} {C : Addr} {o : Obj} (nm qn : Str) (N : Addr) (bs bm : List Value) (hdct : Bool) (sn : List Str) (sub : List Value) (ab : Bool) (col : Option Bool) (dd : Option Addr) (k0 k1 k2 k3 k5 : Option Value) (l : K.lookup C = some o)
    (e : o = excClassObj nm qn C N bs bm hdct sn sub ab col dd k0 k1 k2 k3 k5 "ValueError.__new__") (a : PySem.W.nsOkIn K N = true) (b : PySem.W.nsIn K N "__init__" = some none) (c : PySem.W.tailIn K bmV bm = true) : XObj K C := by
  subst e
  exact ⟨_, _, _, _, _, _, _, _, _, _, _, _, _, _, _, _, l, a, b, c⟩
def tRaise (C : Addr) (E : XK) (t : TA) : TS := fun _ σ H => t σ H fun vs H1 => vs.length ≤ sizeLine ∧ E (.ref C) none H1
section
variable {X : Cx} {x : Str} {np cpos pos : Pos} {e0 : Expr} {es : List Expr} {t : TA} {C : Addr} {E : XK}
theorem ps_raise (q : XObj X.K C) (hc : X.calm = true) (hR : Raises X E) (hg : Gl X x) (hm : X.mg x = some (.ref C)) (ha : PA X (e0 :: es) t) (hdb : (x == ("__debug__" : Str)) = false := by decide)
    (he : starEach (e0 :: es) X.env = (false, eval e0 X.env) :: starEach es X.env := by rfl) (hpl : (backTo cpos (starEach es X.env)).any (·.1) = false := by rfl) : PS X (.Raise (some (.Call (.Name x np) (e0 :: es) [] cpos)) none pos) (tRaise C E t) := by
  intro pins s σ H D I h
  obtain ⟨nm, qn, N, bs, bm, hdct, sn, sub, ab, col, dd, k0, k1, k2, k3, k5, ho, z5, z6, z4⟩ := q
  have B := I.mod.kin
  have T0 := PySem.W.tail_of_in B z4
  have N0 : X.base.Ns N (X.base.nsMap N) := .of_isNs (PySem.W.isNs_of_in B z5)
  have hp : (backTo cpos (starEach (e0 :: es) X.env)).any (·.1) = false := by
    rw [he]
    show (false || (backTo cpos (starEach es X.env)).any (·.1)) = false
    rw [hpl]
    rfl
  refine wpAny_Raise_call_subT (C := C) (nm := nm) (q := qn) (N := N) (bs := bs) (bm := bm) (hdct := hdct) (sn := sn) (sub := sub) (ab := ab) (col := col) (dd := dd) (k0 := k0) (k1 := k1) (k2 := k2) (k3 := k3) (k5 := k5) PySem.F.excBase_ValueError
    (T0.hasType (by decide +kernel)) (I.ok.hd hc) hp (PySem.W.nsMap_none_of_in B z5 z6) (ld_glob I hg hm ⟨rfl, ?_⟩ hdb)
  have g := ha cpos pins s σ H _ I h
  rw [he] at g ⊢
  refine Calls.evalArgs_plain (thn g fun us s1 ⟨vs, H1, I1, r1, q1⟩ => ⟨rfl, by show us.length ≤ _; rw [← r1.length]; exact q1.1, I1.bk _ _ (B _ _ ho), N0.keeps I1.bk, T0.keeps I1.bk, fun h' ea m => ?_⟩)
  obtain ⟨tt, m1, _, _⟩ := m.there
  exact hR pins σ H1 s1 ea (.ref C) none h' s1.toks I1 m.keeps m.new ⟨_, _, m1, rfl, rfl, rfl, rfl⟩ q1.2
end
section
variable {CX : CXT} {X : Cx} {k : Nat} {f C : Addr} {fd : FuncData} {ps : List Str} {sp : Sp} {dvs : List V} {ds : List Value} {x : Str} {p pos : Pos} {e : Expr} {es : List Expr} {te : TE} {t : TA} {st : Stmt} {sts : List Stmt} {ts : TS} {tx ux : (St → XK) → TS} {ex : XK → TE}
end
end L2
set_option Elab.async false
set_option linter.all false
set_option maxRecDepth 100000
namespace L2
open PySem PySem.Spec PyProof.Rows
section
variable {X : Cx} {pins : List (Addr × Obj)} {σ : St} {H : Hp} {s : Shared}
end
section
variable {K : PySem.W.Frag} {C C' : Addr} {x : Addr} {ox : Obj} {od : Option Obj} {M : Model} {A : Around} {E : Value → Shared → Prop} {s : Shared} {b : Bool} {Q : Bool → Shared → Prop}
end
end L2
set_option Elab.async false
set_option linter.all false
set_option maxRecDepth 100000
namespace L2
open PySem PySem.Spec PyProof.Rows
def ExO (ea : Addr) (cls : Value) (od : Option Addr) : HO := .ext fun h => ∃ oe vs, h.get? ea = some oe ∧ oe.cls = cls ∧ oe.dict = od ∧ oe.data = .fields vs
section
variable {X : Cx} {pins : List (Addr × Obj)} {σ : St} {H : Hp} {s : Shared}
end
abbrev TH := Ends → St → Value → Option Addr → Hp → Prop
def Ends.less (D : Ends) (i : Nat) : Ends := { nx := fun σ H => D.nx (σ.set i none) H, rt := D.rt, bk := fun σ H => D.bk (σ.set i none) H, ct := fun σ H => D.ct (σ.set i none) H }
def tHand (K : PySem.W.Frag) (C' : Addr) (i : Nat) (ts : TS) (tr : TH) : TH := fun D σ cls od H => ∃ C b, cls = .ref C ∧ PySem.W.mroIn K C (.ref C') = some b ∧
  if b = true then ∀ ea, H ea = none → ts (D.less i) (σ.set i (some (.ref ea))) (upd H ea (ExO ea cls od)) else tr D σ cls od H
section
variable {X : Cx} {x n : Str} {np pos : Pos} {i : Nat} {C' : Addr} {b0 : Stmt} {suite : List Stmt} {rest : List ExceptHandler} {ts : TS} {tr : TH}
def tTry (tb : (St → XK) → TS) (th : TH) : TS := fun D σ H => tb (fun σ' cls od H' => th D σ' cls od H') D σ H
end
end L2
set_option Elab.async false
set_option linter.all false
set_option maxRecDepth 100000
namespace L2
open PySem PySem.Spec PyProof.Rows
section
variable {P : Program} {w : World} {K : PySem.W.Frag} {mg : Str → Option Value} {base : Heap}
end
section
variable {X : Cx} {k : Nat} {f : Addr} {fd : FuncData} {ps : List Str} {sp : Sp} {x : Str} {p pos : Pos} {e : Expr} {es : List Expr} {t : TA}
end
section
variable {X : Cx}
end
def clOf (cells : List (Str × Addr)) : List (Str × NameKind) → List (Str × Addr) → List (Str × Addr)
  | [], acc => acc
  | (n, k) :: r, acc => if k == .free then clOf cells r ((n, (cells.lookup n).getD 0) :: acc) else clOf cells r acc
theorem closure_of {scope : Scope} {env : Env} (h : ∀ y ∈ scope.names, y.2 = .free → (env.cells.lookup y.1).isSome = true) : closureFor scope env = pure (clOf env.cells scope.names []) := by
  have key : ∀ (l : List (Str × NameKind)) (acc : List (Str × Addr)), (∀ y ∈ l, y.2 = .free → (env.cells.lookup y.1).isSome = true) →
      (forIn l acc fun (y : Str × NameKind) (c : List (Str × Addr)) => (if y.2 == NameKind.free then do let a ← cellOf env y.1; pure (ForInStep.yield ((y.1, a) :: c)) else pure (ForInStep.yield c) : Sem (ForInStep (List (Str × Addr))))) = (pure (clOf env.cells l acc) : Sem (List (Str × Addr))) := by
    intro l
    induction l with
    | nil => intro acc _; rfl
    | cons y l ih =>
      obtain ⟨n, k⟩ := y
      intro acc hh
      have h1 := hh (n, k) List.mem_cons_self
      have h2 : ∀ y ∈ l, y.2 = .free → (env.cells.lookup y.1).isSome = true := fun y hy => hh y (List.mem_cons_of_mem _ hy)
      rw [List.forIn_cons]
      unfold clOf
      cases q : k == NameKind.free with
      | false =>
        simp only [Bool.false_eq_true, if_false, pure_bind]
        exact ih acc h2
      | true =>
        obtain ⟨c, hc⟩ := Option.isSome_iff_exists.mp (h1 (by simpa using q))
        dsimp only at hc
        simp only [if_true, cellOf, hc, pure_bind, Option.getD_some]
        exact ih _ h2
  have := key scope.names [] h
  unfold closureFor
  simp only [bind_pure]
  exact this
theorem clOf_sub {cells : List (Str × Addr)} {x : Str} {c : Addr} : ∀ {l : List (Str × NameKind)} {acc : List (Str × Addr)}, (∀ y ∈ l, y.2 = .free → (cells.lookup y.1).isSome = true) → (∀ x c, acc.lookup x = some c → cells.lookup x = some c) → (clOf cells l acc).lookup x = some c → cells.lookup x = some c
  | [], acc, _, h2, h3 => h2 x c h3
  | (n, k) :: r, acc, h1, h2, h3 => by
    have h1' : ∀ y ∈ r, y.2 = .free → (cells.lookup y.1).isSome = true := fun y hy => h1 y (List.mem_cons_of_mem _ hy)
    unfold clOf at h3
    cases q : k == NameKind.free with
    | false =>
      rw [q] at h3
      exact clOf_sub h1' h2 (by simpa using h3)
    | true =>
      rw [q] at h3
      simp only [if_true] at h3
      obtain ⟨a, ha⟩ := Option.isSome_iff_exists.mp (h1 (n, k) List.mem_cons_self (by simpa using q))
      dsimp only at ha
      rw [ha] at h3
      refine clOf_sub h1' (fun y d hy => ?_) h3
      rw [List.lookup_cons] at hy
      cases z : y == n with
      | true =>
        rw [z] at hy
        cases hy
        rw [eq_of_beq z]
        exact ha
      | false =>
        rw [z] at hy
        exact h2 y d hy
theorem clOf_has {cells : List (Str × Addr)} {x : Str} : ∀ {l : List (Str × NameKind)} {acc : List (Str × Addr)}, ((∃ c, acc.lookup x = some c) ∨ (x, NameKind.free) ∈ l) → ∃ c, (clOf cells l acc).lookup x = some c
  | [], acc, h => by
    rcases h with h | h
    · exact h
    · cases h
  | (n, k) :: r, acc, h => by
    unfold clOf
    cases q : k == NameKind.free with
    | false =>
      simp only [Bool.false_eq_true, if_false]
      refine clOf_has ?_
      rcases h with h | h
      · exact .inl h
      · rcases List.mem_cons.mp h with z | z
        · cases z
          simp at q
        · exact .inr z
    | true =>
      simp only [if_true]
      refine clOf_has ?_
      by_cases z : x = n
      · subst z
        exact .inl ⟨(cells.lookup x).getD 0, by rw [List.lookup_cons]; simp⟩
      · rcases h with ⟨c, h⟩ | h
        · refine .inl ⟨c, ?_⟩
          rw [List.lookup_cons]
          have : (x == n) = false := by simpa using z
          rw [this]
          exact h
        · rcases List.mem_cons.mp h with y | y
          · cases y
            exact absurd rfl z
          · exact .inr y
theorem relabel_lookup {env : Env} {x : Str} {k : NameKind} : ∀ {l : List (Str × NameKind)}, l.lookup x = some k →
    (l.map fun (n, k) => if (k == NameKind.free && env.scope.kind == .function && env.kindOf n == some .cell) then (n, NameKind.cell) else (n, k)).lookup x = some (if (k == NameKind.free && env.scope.kind == .function && env.kindOf x == some .cell) then NameKind.cell else k)
  | [], h => by simp at h
  | (n, j) :: r, h => by
    have ih := @relabel_lookup env x k r
    rw [List.map_cons]
    rw [List.lookup_cons] at h
    cases z : x == n with
    | true =>
      rw [z] at h
      cases h
      have e := eq_of_beq z
      subst e
      by_cases q : (k == NameKind.free && env.scope.kind == .function && env.kindOf x == some .cell) = true
      · simp only [q, if_true, List.lookup_cons, z]
      · simp only [q, if_false, List.lookup_cons, z, Bool.false_eq_true]
    | false =>
      rw [z] at h
      dsimp only
      by_cases q : (j == NameKind.free && env.scope.kind == .function && env.kindOf n == some .cell) = true
      · rw [if_pos q, List.lookup_cons, z]
        exact ih h
      · rw [if_neg q, List.lookup_cons, z]
        exact ih h
theorem ct_clos {X : Cx} {Nc : List Str} {scope : Scope} (own : Nat) (js : List Nat) (hc : ∀ y ∈ scope.names, y.2 ≠ .cell) (hk : scope.kind = .function) (hn : ∀ y ∈ scope.names, y.2 = .local → scope.names.lookup y.1 = some .local) (hl : Nc.length = own + js.length)
    (hf : ∀ y ∈ scope.names, y.2 = .free → X.env.scope.names.lookup y.1 = some .cell) (hX : X.env.scope.kind = .function) (hcell : ∀ x, X.env.scope.names.lookup x = some .cell → ∃ c, X.env.cells.lookup x = some c)
    (hU : ∀ i, i < js.length → ∃ x j, Nc[own + i]? = some x ∧ js[i]? = some j ∧ X.N[j]? = some x ∧ scope.names.lookup x = some .free) : CompTxt X Nc own js scope (clOf X.env.cells scope.names []) := by
  have hs : ∀ y ∈ scope.names, y.2 = .free → (X.env.cells.lookup y.1).isSome = true := fun y hy e => by
    obtain ⟨c, q⟩ := hcell _ (hf y hy e)
    rw [q]
    rfl
  have free_cell : ∀ x, scope.names.lookup x = some .free → X.env.scope.names.lookup x = some .cell := fun x h => hf (x, .free) (PySem.mem_of_lookup h) rfl
  refine ⟨closure_of hs, hk, hc, hn, fun x c h => clOf_sub hs (fun x c z => by simp at z) h, fun x h => ?_, hl, fun i x h => ?_⟩
  · cases q : scope.names.lookup x with
    | none =>
      exfalso
      have : (relabel scope X.env).names.lookup x = none := by
        unfold relabel
        dsimp only
        revert q
        generalize scope.names = l
        induction l with
        | nil => intro _; rfl
        | cons y l ih =>
          obtain ⟨n, k⟩ := y
          intro q
          rw [List.lookup_cons] at q
          cases z : x == n with
          | true => rw [z] at q; cases q
          | false =>
            rw [z] at q
            rw [List.map_cons]
            dsimp only
            by_cases w : (k == NameKind.free && X.env.scope.kind == .function && X.env.kindOf n == some .cell) = true
            · rw [if_pos w, List.lookup_cons, z]
              exact ih q
            · rw [if_neg w, List.lookup_cons, z]
              exact ih q
      rw [this] at h
      rcases h with h | h <;> cases h
    | some k =>
      have r : (relabel scope X.env).names.lookup x = some _ := relabel_lookup (env := X.env) q
      cases k with
      | free => exact clOf_has (.inr (PySem.mem_of_lookup q))
      | cell => exact absurd rfl (hc _ (PySem.mem_of_lookup q))
      | _ =>
        rw [r] at h
        simp at h
  · have hi : i < js.length := by
      have := (List.getElem?_eq_some_iff.mp h).1
      omega
    obtain ⟨y, j, e1, e2, e3, e4⟩ := hU i hi
    rw [h] at e1
    cases e1
    have fc := free_cell x e4
    refine ⟨j, e2, e3, fc, ?_⟩
    have r : (relabel scope X.env).names.lookup x = some _ := relabel_lookup (env := X.env) e4
    rw [r]
    have : X.env.kindOf x = some .cell := fc
    rw [this, hX]
    rfl
end L2
set_option Elab.async false
set_option linter.all false
set_option maxRecDepth 100000
namespace L2
open PySem PySem.Spec PyProof.Rows
theorem ints_of : ∀ {ns : List Int} {us : List Value}, Vals (ns.map V.int) us → IntsAre us ns
  | [], _, h => by cases h; exact .nil
  | n :: ns, _, h => by
    cases h with
    | cons r t =>
      obtain ⟨k, rfl⟩ := (show ∃ t, _ = Value.int n t from r)
      exact .cons n k (ints_of t)
theorem of_ints : ∀ {ns : List Int} {us : List Value}, IntsAre us ns → Vals (ns.map V.int) us
  | _, _, .nil => .nil
  | _, _, .cons n t r => .cons ⟨t, rfl⟩ (of_ints r)
section
variable {X : Cx}
theorem call_sorted : CallR X (.builtin "sorted") (fun xs H Q => ∃ (p : Addr) (ns : List Int), xs = [.ref p] ∧ SqL X.K H p (ns.map V.int) ∧ ns.length < 64 ∧ ∀ (l : Addr) (zs : List Int), H l = none → zs.Perm ns → zs.Pairwise (· ≤ ·) → Q (.ref l) (upd H l (.lst (zs.map V.int)))) := by
  intro pins s σ H xs us Q I r h
  obtain ⟨p, ns, rfl, hp, h64, q⟩ := h
  obtain ⟨u, rfl, ru⟩ := vals1 r
  cases ru
  obtain ⟨its, rv, pl, hz⟩ := I.list hp
  have hi := ints_of rv
  have e1 := IntsAre.length hi
  refine sorted_ints pl.isList hi (by omega) fun out zs a1 a2 a3 => ?_
  obtain ⟨e, he⟩ := sortedAll_at s.heap its out
  have hn : H (s.heap.objs.size + 1) = none := I.hok.fresh (Nat.le_succ _)
  have ln : zs.length = ns.length := a2.length_eq
  refine ⟨.ref (s.heap.objs.size + 1), _, I.laid (a := s.heap.objs.size + 1) (o := .lst (zs.map V.int)) (t' := s.toks) (fun b o e => sortedAll_old e) (Nat.le_succ _) ⟨?_, out.toList, e, of_ints a1, ?_⟩, rfl, q _ zs hn a2 a3⟩
  · rw [List.length_map, ln]
    exact smallE (by omega)
  · exact he
end
section
variable {K : PySem.W.Frag} {T C : Addr} {c0 : Value} {dd : Option Addr} {cd : ClassData} {sl : Array (Option Value)}
end
section
variable {P : Program} {w : World} {K : PySem.W.Frag} {mg : Str → Option Value} {base : Heap}
theorem Fun.okX {x qual : Str} {st : Stmt} {f : Addr} {fd : FuncData} {N ps : List Str} {k : Nat} {sp : Sp} (F : Fun K x qual st f fd) (S : FnScope N ps (defScope st)) (len : ∀ vs H Q E, sp vs H Q E → vs.length = ps.length)
    (hbody : ∀ (cdv : Value) (A : Around) (outer : List Env) (s : Shared) (H : Hp) (vs : List V) (Q : VK) (E : XK), Room k (A.deeper (envOfC qual (defScope st) s.heap.objs.size f cdv)) → sp vs H Q E →
      ∃ t, PSs (cxOf (CXe P w) P w K mg base N qual (defScope st) f cdv A outer s H E) (defBody st) t ∧ t { nx := fun _ H' => Q .non H', rt := Q } (start N vs) H) : FnOk P w K mg base (CXe P w) (k + 1) f fd ps sp := by
  obtain ⟨oc, od, kV, doc, pm, an, cdv, ct, osl, rfl, lk, hcd⟩ := F.ex
  exact fn_of lk hcd S len fun A outer s H vs Q E hr hsp => hbody cdv A outer s H vs Q E hr hsp
end
theorem tRaise_eq {C : Addr} {E : XK} {t : TA} {D : Ends} {σ : St} {H : Hp} : tRaise C E t D σ H = t σ H fun vs H1 => vs.length ≤ sizeLine ∧ E (.ref C) none H1 := rfl
theorem tTry_eq {tb : (St → XK) → TS} {th : TH} {D : Ends} {σ : St} {H : Hp} : tTry tb th D σ H = tb (fun σ' cls od H' => th D σ' cls od H') D σ H := rfl
theorem tHand_eq {K : PySem.W.Frag} {C' : Addr} {i : Nat} {ts : TS} {tr : TH} {D : Ends} {σ : St} {cls : Value} {od : Option Addr} {H : Hp} : tHand K C' i ts tr D σ cls od H = ∃ C b, cls = .ref C ∧ PySem.W.mroIn K C (.ref C') = some b ∧
  if b = true then ∀ ea, H ea = none → ts (D.less i) (σ.set i (some (.ref ea))) (upd H ea (ExO ea cls od)) else tr D σ cls od H := rfl
theorem Same.put {H H' : Hp} {l : Addr} (e : Same H H') (n : H l = none) (o : HO) : Same H (upd H' l o) := fun b u h => by rw [upd_ne (ne_of_none h n)]; exact e b u h
theorem flat_ints : ∀ ns : List Int, (ns.map V.int).all flatV = true
  | [] => rfl
  | n :: ns => by rw [List.map_cons, List.all_cons, flat_ints ns]; rfl
end L2
set_option Elab.async false
set_option linter.all false
set_option maxRecDepth 100000
namespace L2
open PySem PySem.Spec PyProof.Rows
theorem asg_name {M : Model} {A : Around} {E : Value → Shared → Prop} {s : Shared} {env : Env} {x : Str} {px : Pos} {v : Value} {Q : Unit → Shared → Prop} (h : wpAny M A (storeName env x v) Q E s) : wpAny M A (assign (.Name x px) env v) Q E s := by
  show wpAny M A (do standAt px; bindName env x v) Q E s
  exact wpAny_bind (wpAny_standAt (wpAny_bindName h))
section
variable {X : Cx} {Nc : List Str} {own : Nat} {js : List Nat} {scope : Scope} {cl : List (Str × Addr)}
theorem ps_setComp {i : Nat} {x : Str} {px pos : Pos} {elt target iter : Expr} {ifs : List Expr} {cpos : Pos} {wi : TI} {g : TG} {tc : TT} {te : TE} (hN : X.N.Nodup) (hxi : X.N[i]? = some x) (hxl : X.env.scope.names.lookup x = some .local) (hc : X.calm = true) (T : CompTxt X Nc own js scope cl)
    (hi : PI X target iter wi) (hg : ∀ C s₂ H₁ fp, PG (X.comp Nc scope cl C s₂ H₁ fp) target g) (ht : ∀ C s₂ H₁ fp, PTs (X.comp Nc scope cl C s₂ H₁ fp) ifs tc)
    (he : ∀ C s₂ H₁ fp, PE (X.comp Nc scope cl C s₂ H₁ fp) elt te) (hs : ∀ x, foldedSetIterable iter X.env x = pure x := by intro _; rfl)
    (hsw : swapsWith (.ListComp elt [⟨target, iter, ifs, 0⟩] scope cpos) (some (.Name x px)) pos.line X.env = pure true := by rfl) :
    PS X (.Assign [.Name x px] (.ListComp elt [⟨target, iter, ifs, 0⟩] scope cpos) pos) (tAsg (tComp own js wi g tc te) (gName i)) := by
  intro pins s σ H D I h
  rw [exec_Assign_Name_used _ _ _ _ hsw]
  refine wpAny_bind (wpAny_standAt (wpAny_bind ?_))
  rw [arm_evalThenUse_ListComp]
  refine wpAny_bind ?_
  refine wpAny_comprehension_free (use := some (assign (.Name x px) X.env)) rfl hs T.clos T.kind T.names (thn (hi pins s σ H _ I h) fun v s1 h1 => thn h1 fun itv s2 h2 => ?_)
  obtain ⟨it, fp, tn, J, H1, rfl, I1, Tn, st, f1, R⟩ := h2
  have hfp : ∀ b ∈ fp, b < s2.heap.objs.size := fun b hb => let ⟨o, e, _⟩ := Tn.obj _ _ st b hb; Heap.lt_size e
  refine wpAny_newObj_type (wpAny_newFunctionEnv T.nocell (by intro y hy; simp at hy) (fun h₁ hns₁ hsb₁ => ?_) T.kind)
  dsimp only at hns₁ hsb₁ ⊢
  generalize hH2 : s2.heap.push { cls := .type "list", dict := none, data := .seq ([] : List Value).toArray } = H2 at hns₁ hsb₁ ⊢
  have hC : H2.objs.size = s2.heap.objs.size + 1 := by rw [← hH2, Heap.size_push]
  have hDC : s2.heap.objs.size ≠ H2.objs.size := by rw [hC]; exact Nat.ne_of_lt (Nat.lt_succ_self _)
  have hCle : s2.heap.objs.size ≤ H2.objs.size := by rw [hC]; exact Nat.le_succ _
  have below : ∀ b, b < s2.heap.objs.size → b ≠ H2.objs.size := fun b hb => by rw [hC]; exact Nat.ne_of_lt (Nat.lt_succ_of_lt hb)
  have old : ∀ b o, s2.heap.get? b = some o → h₁.get? b = some o := fun b o e => hsb₁.extBut b o (below b (Heap.lt_size e)) (Heap.get?_push_of_some _ (hH2 ▸ Heap.get?_push_of_some _ e))
  have hacc : ∃ n, h₁.get? s2.heap.objs.size = some { cls := .type "list", data := .seq ([] : List Value).toArray n } := ⟨_, hsb₁.extBut _ _ hDC (Heap.get?_push_of_some _ (hH2 ▸ Heap.get?_push_size _ rfl))⟩
  have st₁ : tn 0 h₁ := Tn.keep _ _ _ st fun b _ o e => old b o e
  obtain ⟨W, ⟨m0, w0⟩, turn⟩ := R s2.heap.objs.size I1.fresh
  have Ic := comp_inv (t := s2.toks + ([] : List (Str × Value)).length) T I1 hCle (Nat.le_refl _) hDC f1 hfp old hns₁ hacc
  generalize hXc : X.comp Nc scope cl H2.objs.size s2 H1 fp = Xc at Ic
  have stat : ∀ {H' : Hp}, (∀ b ∈ fp, H' b = none) → ∀ b ∈ fp, FpOk Xc [] H' b := fun {H'} hn b hb => by
    subst hXc
    exact ⟨hn b hb, below b (hfp b hb), (comp_ok T I1 hCle f1 hfp).exfs b hb, .inl hb, fun x c e => (f1 b hb).2.2.2.2.1 x c (T.cells x c e), fun p hp => by cases hp⟩
  have fr0 : ∀ b ∈ fp, upd H1 s2.heap.objs.size (.lst []) b = none := fun b hb => by
    rw [upd_ne (Nat.ne_of_lt (hfp b hb))]
    exact (f1 b hb).1
  have calmc : Xc.calm = true := by subst hXc; exact hc
  have loop : ∀ s₃ : Shared, s₃ = { s2 with heap := h₁, toks := s2.toks + ([] : List (Str × Value)).length } →
      codeAny (model X.prog X.w) X.A (.compLoop (.ListComp elt [⟨target, iter, ifs, 0⟩] scope cpos) 0 (.ref it) (.ref s2.heap.objs.size) (compEnvC scope cl H2.objs.size X.env))
        (compPost (model X.prog X.w) X.A X.xe (some (assign (.Name x px) X.env)) (fun _ s' => wpAny (model X.prog X.w) X.A (pure ()) (fun _ s'' => wpAny (model X.prog X.w) X.A (pure Flow.next) (SP X pins D) X.xe s'') X.xe s') (.ref s2.heap.objs.size) H2.objs.size) s₃ := by
    rintro s₃ rfl
    refine compLoop_go (fun n s' => ∃ i ys σ' H', Inv Xc [] σ' H' s' ∧ tn i s'.heap ∧ (∀ b ∈ fp, H' b = none) ∧ W i n ys σ' H') ?_ m0 ⟨0, [], _, _, Ic, st₁, fr0, w0⟩
    rintro n s3 ⟨i, ys, σ3, H3, I3, st3, fr3, w3⟩
    rcases turn i n ys σ3 H3 w3 with ⟨stop, q⟩ | ⟨go, step⟩
    · subst hXc
      refine thn (Tn.done (X.comp Nc scope cl H2.objs.size s2 H1 fp) rfl rfl rfl hc i [] s3 σ3 H3 _ I3 (stat fr3) st3 stop) fun r s4 ⟨hr, I4⟩ => ?_
      subst hr
      obtain ⟨m4, hn4, _⟩ := id I4.loc
      have J := comp_back I1 hCle f1 I4 (h' := s4.heap) (Heap.SameBut.refl _ _)
      have cl0 : H2.objs.size ≠ X.env.locals := Nat.ne_of_gt (Nat.lt_of_lt_of_le I1.lt hCle)
      have cy : X.s₀.heap.objs.size ≤ H2.objs.size := Nat.le_trans I1.sz hCle
      have cc : ∀ y c, X.env.cells.lookup y = some c → c ≠ H2.objs.size := fun y c e => by
        obtain ⟨v', o', ho', _⟩ := I1.cell y c e
        exact Nat.ne_of_lt (Nat.lt_of_lt_of_le (Heap.lt_size ho') hCle)
      have cp : ∀ p ∈ X.pn ++ pins, p.1 ≠ H2.objs.size := fun p hp => by
        obtain ⟨ho', _⟩ := I1.pin p hp
        exact Nat.ne_of_lt (Nat.lt_of_lt_of_le (Heap.lt_size ho') hCle)
      refine asg_name (store_ok2 (v := .ref s2.heap.objs.size) J hN hxi (.inl hxl) rfl (fun s5 I5 ⟨ad, sb, had⟩ => ?_) (.inr hxl))
      have nad : H2.objs.size ≠ ad := by
        rcases had with rfl | had
        · exact cl0
        · exact (cc _ _ had).symm
      obtain ⟨oo, es, ep, e1, e2⟩ := hn4
      refine ⟨m4, ⟨oo, es, ep, (sb.2 _ nad).trans e1, e2⟩, fun h' hs' => wpAny_pure (wpAny_pure ⟨_, H3, ?_, q⟩)⟩
      exact I5.turned (it := H2.objs.size) (t' := s5.toks) (fun b o n e => hs'.extBut b o n e) I4.free cl0 (.inr cy) cc cp
    · subst hXc
      refine thn (Tn.item (X.comp Nc scope cl H2.objs.size s2 H1 fp) rfl rfl rfl hc i [] s3 σ3 H3 _ I3 (stat fr3) st3 go) fun r s4 ⟨u, hr, h4⟩ => ?_
      subst hr
      refine thn h4 fun _ s5 ⟨x, H5, I5, r5, y5, st5, fr5⟩ => ?_
      have I5' := I5.pinned (stat fr5) (Tn.obj _ _ st5)
      have back : ∀ {σ7 : St} {H7 : Hp} {s7 : Shared}, Inv (X.comp Nc scope cl H2.objs.size s2 H1 fp) ([] ++ pinsAt fp s5.heap) σ7 H7 s7 → Inv (X.comp Nc scope cl H2.objs.size s2 H1 fp) [] σ7 H7 s7 ∧ tn (i + 1) s7.heap ∧ ∀ b ∈ fp, H7 b = none := fun {σ7 H7 s7} I7 => by
        refine ⟨I7.unpinned, Tn.keep _ _ _ st5 fun b hb o e => (I7.pin (b, o) (List.mem_append_right _ (List.mem_append_right _ (mem_pinsAt hb e)))).1, fun b hb => ?_⟩
        obtain ⟨o, e, d⟩ := Tn.obj _ _ st5 b hb
        exact (I7.pin (b, o) (List.mem_append_right _ (List.mem_append_right _ (mem_pinsAt hb e)))).2.1
      refine thn (hg _ _ _ _ _ s5 σ3 H5 x u _ I5' r5 (step x H5 y5)) fun _ s6 ⟨σ6, H6, I6, q6⟩ => ?_
      refine thnT (ht _ _ _ _ _ s6 σ6 H6 _ I6 q6) fun ok s7 H7 I7 q7 => ?_
      cases ok with
      | false =>
        rw [if_neg Bool.false_ne_true] at q7 ⊢
        obtain ⟨m', hm, w7⟩ := q7
        obtain ⟨J1, J2, J3⟩ := back I7
        exact ⟨m', hm, i + 1, ys, σ6, H7, J1, J2, J3, w7⟩
      | true =>
        rw [if_pos rfl] at q7 ⊢
        refine thnE (he _ _ _ _ _ s7 σ6 H7 _ I7 q7) fun y s8 yv H8 I8 r8 ⟨hp8, hl8, m', hm, w8⟩ => ?_
        refine thn (mt_append _ s8 σ6 H8 (.ref s2.heap.objs.size) [yv] _ [y] (fun v' H' => W (i + 1) m' (ys ++ [yv]) σ6 H') I8 rfl (.cons r8 .nil) ⟨_, ys, yv, rfl, rfl, hp8, hl8, w8⟩) fun v9 s9 ⟨_, H9, I9, _, w9⟩ => ?_
        obtain ⟨J1, J2, J3⟩ := back I9
        exact ⟨m', hm, i + 1, ys ++ [yv], σ6, H9, J1, J2, J3, w9⟩
  exact codeAny_compStart_list (loop _ rfl) (Tn.self _ 0 _ _ _ st₁ (loop _ rfl))
end
end L2
set_option Elab.async false
set_option linter.all false
set_option maxRecDepth 100000
namespace L2
open PySem PySem.Spec PyProof.Rows
theorem deep_intsAll {K : PySem.W.Frag} {H : Hp} : ∀ ns : List Int, DeepAll K H (ns.map V.int) (ns.map PyData.int)
  | [] => .nil
  | n :: ns => .cons (.int n) (deep_intsAll ns)
theorem depth_intsAll : ∀ ns : List Int, PyData.depthAll (ns.map PyData.int) ≤ 1
  | [] => by simp [PyData.depthAll]
  | n :: ns => by
    simp only [List.map_cons, PyData.depthAll]
    have := depth_intsAll ns
    have : (PyData.int n).depth ≤ 1 := by simp [PyData.depth]
    omega
end L2
set_option Elab.async false
set_option linter.all false
set_option maxRecDepth 100000
namespace Pb
open L2 PySem
def front (r : Int) (par : Int → Int) (p : Int) : V := if p = r then .non else .int (par p)
def kidsOf (m : Int) (rs : List Road) (fv : V) (p : Int) : List Int := (nbrs m rs p).filter fun v => decide (V.int v ≠ fv)
variable {m : Int} {rs : List Road} {r : Int} {par : Int → Int} {dep : Int → Nat}
theorem Rooted.ne (R : Rooted m rs r par dep) {v : Int} (h0 : 0 ≤ v) (h1 : v < m) (hr : v ≠ r) : par v ≠ v := fun z => by
  have := (R.up v h0 h1 hr).2.2
  rw [z] at this
  omega
theorem mem_kids (g : Good m rs) (R : Rooted m rs r par dep) {p v : Int} (p0 : 0 ≤ p) (p1 : p < m) : v ∈ kidsOf m rs (front r par p) p ↔ (0 ≤ v ∧ v < m) ∧ v ≠ r ∧ par v = p := by
  unfold kidsOf
  rw [List.mem_filter, mem_nbrs g, decide_eq_true_eq]
  constructor
  · rintro ⟨ad, hf⟩
    obtain ⟨_, hv, _⟩ := g.adj ad
    refine ⟨hv, ?_⟩
    obtain ⟨x, hx, j⟩ := ad
    have key : ∀ u w : Int, (u ≠ r ∧ par u = w) ∨ (w ≠ r ∧ par w = u) → u = p → w = v → v ≠ r ∧ par v = p := fun u w h e1 e2 => by
      subst e1 e2
      rcases h with h | h
      · exfalso
        apply hf
        unfold front
        rw [if_neg h.1, h.2]
      · exact h
    rcases j with ⟨a, b⟩ | ⟨a, b⟩
    · exact key x.a x.b (R.road x hx) a b
    · exact key x.b x.a (R.road x hx).symm a b
  · rintro ⟨hv, hr, hp⟩
    have u := R.up v hv.1 hv.2 hr
    rw [hp] at u
    refine ⟨?_, fun z => ?_⟩
    · obtain ⟨x, hx, j⟩ := u.2.1
      exact ⟨x, hx, j.elim (fun q => .inr ⟨q.2, q.1⟩) (fun q => .inl ⟨q.2, q.1⟩)⟩
    · unfold front at z
      by_cases c : p = r
      · rw [if_pos c] at z; cases z
      · rw [if_neg c] at z
        have e : v = par p := by injection z
        have w := (R.up p p0 p1 c).2.2
        have w2 := u.2.2
        rw [← e] at w
        omega
theorem kids_nodup {fv : V} {p : Int} : (kidsOf m rs fv p).Nodup := (nbrs_nodup m rs p).filter _
def nl (m : Int) (par : Int → Int) (ks : List Int) : List V := (below m.toNat).map fun v => if v ∈ ks then .int (par v) else .non
def parL (m r : Int) (par : Int → Int) : List V := (below m.toNat).map (front r par)
theorem nl_length {ks : List Int} : (nl m par ks).length = m.toNat := by unfold nl; rw [List.length_map, below_length]
theorem below_get {n i : Nat} (h : i < n) : (below n)[i]? = some (i : Int) := by unfold below; rw [List.getElem?_map, List.getElem?_range h]; rfl
theorem nl_get {ks : List Int} {v : Int} (h0 : 0 ≤ v) (h1 : v < m) : (nl m par ks)[v.toNat]? = some (if v ∈ ks then .int (par v) else .non) := by
  unfold nl
  rw [List.getElem?_map, below_get (by omega)]
  show some (if ((v.toNat : Nat) : Int) ∈ ks then V.int (par ((v.toNat : Nat) : Int)) else V.non) = _
  rw [Int.toNat_of_nonneg h0]
theorem nl_set {ks : List Int} {v : Int} (h0 : 0 ≤ v) (h1 : v < m) : (nl m par ks).set v.toNat (.int (par v)) = nl m par (ks ++ [v]) := by
  refine List.ext_getElem? fun i => ?_
  rw [List.getElem?_set]
  by_cases c : i < m.toNat
  · have e : ∀ l : List Int, (nl m par l)[i]? = some (if (i : Int) ∈ l then .int (par (i : Int)) else .non) := fun l => by
      have := nl_get (par := par) (ks := l) (v := (i : Int)) (m := m) (by omega) (by omega)
      rwa [Int.toNat_natCast] at this
    rw [e, nl_length]
    by_cases z : v.toNat = i
    · have z2 : v = (i : Int) := by omega
      rw [if_pos z, if_pos (by omega), e, if_pos (by rw [z2]; simp), ← z2]
    · rw [if_neg z, e]
      have z2 : ¬ ((i : Int) = v) := by omega
      simp [z2]
  · have e : ∀ l : List Int, (nl m par l)[i]? = none := fun l => List.getElem?_eq_none (by rw [nl_length]; omega)
    rw [e, e, nl_length]
    by_cases z : v.toNat = i
    · omega
    · rw [if_neg z]
structure AInv (m : Int) (rs : List Road) (r : Int) (par : Int → Int) (ks ws : List Int) : Prop where
  nd : ks.Nodup
  rng : ∀ k ∈ ks, 0 ≤ k ∧ k < m
  nr : r ∉ ks
  sub : ∀ w ∈ ws, w = r ∨ w ∈ ks
  wnd : ws.Nodup
  ok : ∀ v ∈ ks, par v ∉ ws ∧ (par v = r ∨ par v ∈ ks)
  dn : ∀ v, 0 ≤ v → v < m → v ≠ r → (par v = r ∨ par v ∈ ks) → par v ∉ ws → v ∈ ks
theorem AInv.start : AInv m rs r par [] [r] where
  nd := List.nodup_nil
  rng := fun _ h => by cases h
  nr := fun h => by cases h
  sub := fun w h => .inl (List.mem_singleton.mp h)
  wnd := by simp
  ok := fun _ h => by cases h
  dn := fun v _ _ _ h n => by
    rcases h with h | h
    · exact absurd (by rw [h]; simp) n
    · cases h
theorem AInv.at_ (J : AInv m rs r par ks ws) (r0 : 0 ≤ r) (r1 : r < m) {p : Int} (hp : p ∈ ws) : 0 ≤ p ∧ p < m := by
  rcases J.sub p hp with h | h
  · rw [h]; exact ⟨r0, r1⟩
  · exact J.rng p h
theorem AInv.front (J : AInv m rs r par ks ws) {p : Int} (hp : p ∈ ws) : (if p ∈ ks then V.int (par p) else V.non) = front r par p := by
  unfold Pb.front
  by_cases c : p = r
  · rw [if_pos c, if_neg (by rw [c]; exact J.nr)]
  · rw [if_neg c, if_pos ((J.sub p hp).resolve_left c)]
theorem AInv.step (g : Good m rs) (R : Rooted m rs r par dep) (r0 : 0 ≤ r) (r1 : r < m) {ks ws ws' : List Int} {p : Int} (J : AInv m rs r par ks ws) (e : ws.Perm (p :: ws')) : AInv m rs r par (ks ++ kidsOf m rs (Pb.front r par p) p) (ws' ++ kidsOf m rs (Pb.front r par p) p) := by
  have hp : p ∈ ws := e.mem_iff.mpr List.mem_cons_self
  have pr := J.at_ r0 r1 hp
  have mk : ∀ v, v ∈ kidsOf m rs (Pb.front r par p) p ↔ (0 ≤ v ∧ v < m) ∧ v ≠ r ∧ par v = p := fun v => mem_kids g R pr.1 pr.2
  have nk : (kidsOf m rs (Pb.front r par p) p).Nodup := kids_nodup
  generalize kidsOf m rs (Pb.front r par p) p = kk at mk nk ⊢
  have dis : ∀ v ∈ kk, v ∉ ks := fun v hv z => (J.ok v z).1 (by rw [((mk v).mp hv).2.2]; exact hp)
  obtain ⟨n1, n2⟩ := List.nodup_cons.mp (e.nodup_iff.mp J.wnd)
  have sw : ∀ w ∈ ws', w ∈ ws := fun w hw => e.mem_iff.mpr (List.mem_cons_of_mem _ hw)
  refine ⟨?_, ?_, ?_, ?_, ?_, ?_, ?_⟩
  · rw [List.nodup_append]
    exact ⟨J.nd, nk, fun a ha b hb z => dis b hb (z ▸ ha)⟩
  · intro k hk
    rcases List.mem_append.mp hk with h | h
    · exact J.rng k h
    · exact ((mk k).mp h).1
  · intro z
    rcases List.mem_append.mp z with h | h
    · exact J.nr h
    · exact ((mk r).mp h).2.1 rfl
  · intro w hw
    rcases List.mem_append.mp hw with h | h
    · exact (J.sub w (sw w h)).imp id (List.mem_append_left _)
    · exact .inr (List.mem_append_right _ h)
  · rw [List.nodup_append]
    refine ⟨n2, nk, fun a ha b hb z => ?_⟩
    subst z
    rcases J.sub a (sw a ha) with h | h
    · exact ((mk a).mp hb).2.1 h
    · exact dis a hb h
  · intro v hv
    rcases List.mem_append.mp hv with h | h
    · obtain ⟨o1, o2⟩ := J.ok v h
      refine ⟨fun z => ?_, o2.imp id (List.mem_append_left _)⟩
      rcases List.mem_append.mp z with z | z
      · exact o1 (sw _ z)
      · rcases o2 with o | o
        · exact ((mk _).mp z).2.1 o
        · exact dis _ z o
    · obtain ⟨q1, q2, q3⟩ := (mk v).mp h
      rw [q3]
      refine ⟨fun z => ?_, (J.sub p hp).imp id (List.mem_append_left _)⟩
      rcases List.mem_append.mp z with z | z
      · exact n1 z
      · obtain ⟨w1, w2, w3⟩ := (mk p).mp z
        exact R.ne w1.1 w1.2 w2 w3
  · intro v v0 v1 vr h n
    have nk2 : par v ∉ kk := fun z => n (List.mem_append_right _ z)
    have h' : par v = r ∨ par v ∈ ks := h.imp id fun z => (List.mem_append.mp z).resolve_right nk2
    by_cases c : par v = p
    · exact List.mem_append_right _ ((mk v).mpr ⟨⟨v0, v1⟩, vr, c⟩)
    · refine List.mem_append_left _ (J.dn v v0 v1 vr h' fun z => ?_)
      rcases List.mem_cons.mp (e.mem_iff.mp z) with z | z
      · exact c z
      · exact n (List.mem_append_left _ z)
theorem AInv.perm {ks ws ws2 : List Int} (J : AInv m rs r par ks ws) (e : ws.Perm ws2) : AInv m rs r par ks ws2 where
  nd := J.nd
  rng := J.rng
  nr := J.nr
  sub := fun w h => J.sub w (e.mem_iff.mpr h)
  wnd := e.nodup_iff.mp J.wnd
  ok := fun v h => ⟨fun z => (J.ok v h).1 (e.mem_iff.mpr z), (J.ok v h).2⟩
  dn := fun v h0 h1 hr h n => J.dn v h0 h1 hr h fun z => n (e.mem_iff.mp z)
theorem AInv.all (R : Rooted m rs r par dep) {ks : List Int} (J : AInv m rs r par ks []) : ∀ v, 0 ≤ v → v < m → v ≠ r → v ∈ ks := by
  have key : ∀ n v, dep v = n → 0 ≤ v → v < m → v ≠ r → v ∈ ks := by
    intro n
    induction n with
    | zero =>
      intro v e v0 v1 vr
      have := (R.up v v0 v1 vr).2.2
      omega
    | succ n ih =>
      intro v e v0 v1 vr
      have u := R.up v v0 v1 vr
      refine J.dn v v0 v1 vr ?_ (by simp)
      by_cases c : par v = r
      · exact .inl c
      · exact .inr (ih (par v) (by omega) u.1.1 u.1.2 c)
  exact fun v => key _ v rfl
theorem AInv.done (R : Rooted m rs r par dep) {ks : List Int} (J : AInv m rs r par ks []) : nl m par ks = parL m r par := by
  unfold nl parL
  refine List.map_congr_left fun v hv => ?_
  have hv' : 0 ≤ v ∧ v < m := by
    unfold below at hv
    obtain ⟨k, hk, rfl⟩ := List.mem_map.mp hv
    have := List.mem_range.mp hk
    omega
  unfold Pb.front
  by_cases c : v = r
  · rw [if_pos c, if_neg (by rw [c]; exact J.nr)]
  · rw [if_neg c, if_pos (J.all R v hv'.1 hv'.2 c)]
theorem rep_flat (n : Nat) (v : V) : (List.replicate n [v]).flatten = List.replicate n v := by
  induction n with
  | zero => rfl
  | succ n ih => rw [List.replicate_succ, List.flatten_cons, ih, List.replicate_succ]; rfl
theorem nl_nil : nl m par [] = List.replicate m.toNat V.non := by
  unfold nl
  refine List.ext_getElem? fun i => ?_
  by_cases c : i < m.toNat
  · rw [List.getElem?_map, below_get c, List.getElem?_replicate, if_pos c]
    simp
  · rw [List.getElem?_eq_none (by rw [List.length_map, below_length]; omega), List.getElem?_eq_none (by rw [List.length_replicate]; omega)]
def stepsUp (par : Int → Int) : Nat → Int → List Int
  | 0, v => [v]
  | n + 1, v => v :: stepsUp par n (par v)
theorem Rooted.pos (R : Rooted m rs r par dep) {v : Int} (h0 : 0 ≤ v) (h1 : v < m) (hr : v ≠ r) : dep v = dep (par v) + 1 := (R.up v h0 h1 hr).2.2.symm
theorem stepsUp_ok (R : Rooted m rs r par dep) : ∀ (n : Nat) (v : Int), dep v = n → 0 ≤ v → v < m → (stepsUp par n v).Nodup ∧ (∀ x ∈ stepsUp par n v, (0 ≤ x ∧ x < m) ∧ dep x ≤ n) ∧ (stepsUp par n v).length = n + 1
  | 0, v, e, h0, h1 => ⟨by unfold stepsUp; simp, fun x hx => by
      unfold stepsUp at hx
      rw [List.mem_singleton.mp hx]
      exact ⟨⟨h0, h1⟩, by omega⟩, rfl⟩
  | n + 1, v, e, h0, h1 => by
    have hr : v ≠ r := fun z => by rw [z, R.root] at e; omega
    have u := R.up v h0 h1 hr
    obtain ⟨i1, i2, i3⟩ := stepsUp_ok R n (par v) (by omega) u.1.1 u.1.2
    unfold stepsUp
    refine ⟨List.nodup_cons.mpr ⟨fun z => ?_, i1⟩, fun x hx => ?_, by rw [List.length_cons, i3]⟩
    · have := (i2 v z).2
      omega
    · rcases List.mem_cons.mp hx with rfl | hx
      · exact ⟨⟨h0, h1⟩, by omega⟩
      · exact ⟨(i2 x hx).1, by have := (i2 x hx).2; omega⟩
theorem dep_lt (R : Rooted m rs r par dep) {v : Int} (h0 : 0 ≤ v) (h1 : v < m) : dep v + 1 ≤ m.toNat := by
  obtain ⟨i1, i2, i3⟩ := stepsUp_ok R _ v rfl h0 h1
  have := nodup_len (m := m) (by omega) i1 fun x hx => (i2 x hx).1
  omega
theorem parL_get {v : Int} (h0 : 0 ≤ v) (h1 : v < m) : (parL m r par)[v.toNat]? = some (front r par v) := by
  unfold parL
  rw [List.getElem?_map, below_get (by omega)]
  show some (front r par ((v.toNat : Nat) : Int)) = _
  rw [Int.toNat_of_nonneg h0]
theorem toll_up (g : Good m rs) (R : Rooted m rs r par dep) {v : Int} (h0 : 0 ≤ v) (h1 : v < m) (hr : v ≠ r) : ∃ k, tollOf rs v (par v) = some k ∧ 2 ≤ k ∧ k ≤ 1000000 := by
  obtain ⟨x, hx, j⟩ := (R.up v h0 h1 hr).2.1
  obtain ⟨i, hi⟩ := List.getElem?_of_mem hx
  have ok := g.ok x hx
  rw [tollOf_at g hi j]
  unfold toll1
  by_cases c : x.a = v ∧ x.b = par v
  · rw [if_pos c]
    exact ⟨_, rfl, ok.t0, ok.t1⟩
  · rw [if_neg c]
    have c2 : x.a = par v ∧ x.b = v := by
      rcases j with j | j
      · exact absurd j c
      · exact ⟨j.2, j.1⟩
    rw [if_pos c2]
    exact ⟨_, rfl, ok.u0, ok.u1⟩
def preU (m : Int) (rs : List Road) (r : Int) (par : Int → Int) : Nat → Int → List Int
  | 0, v => [v]
  | n + 1, v => v :: (kidsOf m rs (front r par v) v).flatMap (preU m rs r par n)
def preL (m : Int) (rs : List Road) (r : Int) (par : Int → Int) (dep : Int → Nat) (v : Int) : List Int := preU m rs r par (m.toNat - 1 - dep v) v
theorem flatMap_congr' {f h : Int → List Int} : ∀ {l : List Int}, (∀ x ∈ l, f x = h x) → l.flatMap f = l.flatMap h
  | [], _ => rfl
  | a :: l, e => by rw [List.flatMap_cons, List.flatMap_cons, e a List.mem_cons_self, flatMap_congr' fun x hx => e x (List.mem_cons_of_mem _ hx)]
theorem preL_step (g : Good m rs) (R : Rooted m rs r par dep) {v : Int} (h0 : 0 ≤ v) (h1 : v < m) : preL m rs r par dep v = v :: (kidsOf m rs (front r par v) v).flatMap (preL m rs r par dep) := by
  have mk : ∀ u, u ∈ kidsOf m rs (front r par v) v → (0 ≤ u ∧ u < m) ∧ u ≠ r ∧ par u = v := fun u => (mem_kids g R h0 h1).mp
  have du : ∀ u ∈ kidsOf m rs (front r par v) v, dep u = dep v + 1 ∧ dep u + 1 ≤ m.toNat := fun u hu => by
    obtain ⟨w1, w2, w3⟩ := mk u hu
    have := R.pos w1.1 w1.2 w2
    rw [w3] at this
    exact ⟨this, dep_lt R w1.1 w1.2⟩
  unfold preL
  cases e : m.toNat - 1 - dep v with
  | zero =>
    have : kidsOf m rs (front r par v) v = [] := List.eq_nil_iff_forall_not_mem.mpr fun u hu => by
      have := du u hu
      omega
    rw [this]
    rfl
  | succ n =>
    show v :: (kidsOf m rs (front r par v) v).flatMap (preU m rs r par n) = _
    rw [flatMap_congr' fun u hu => show preU m rs r par n u = preU m rs r par (m.toNat - 1 - dep u) u by rw [show m.toNat - 1 - dep u = n by have := du u hu; omega]]
def up (par : Int → Int) : Nat → Int → Int
  | 0, x => x
  | k + 1, x => par (up par k x)
theorem nodup_flat {f : Int → List Int} : ∀ {l : List Int}, l.Nodup → (∀ u ∈ l, (f u).Nodup) → (∀ u ∈ l, ∀ w ∈ l, ∀ x, x ∈ f u → x ∈ f w → u = w) → (l.flatMap f).Nodup
  | [], _, _, _ => by simp
  | a :: l, n, h1, h2 => by
    obtain ⟨n1, n2⟩ := List.nodup_cons.mp n
    rw [List.flatMap_cons, List.nodup_append]
    refine ⟨h1 a List.mem_cons_self, nodup_flat n2 (fun u hu => h1 u (List.mem_cons_of_mem _ hu)) (fun u hu w hw => h2 u (List.mem_cons_of_mem _ hu) w (List.mem_cons_of_mem _ hw)), fun x hx y hy z => ?_⟩
    subst z
    obtain ⟨w, hw, hxw⟩ := List.mem_flatMap.mp hy
    have := h2 a List.mem_cons_self w (List.mem_cons_of_mem _ hw) x hx hxw
    exact n1 (this ▸ hw)
theorem preU_ok (g : Good m rs) (R : Rooted m rs r par dep) : ∀ (n : Nat) (v : Int), 0 ≤ v → v < m → (preU m rs r par n v).Nodup ∧ ∀ x ∈ preU m rs r par n v, (0 ≤ x ∧ x < m) ∧ ∃ k, dep x = dep v + k ∧ up par k x = v
  | 0, v, h0, h1 => ⟨by unfold preU; simp, fun x hx => by
      unfold preU at hx
      rw [List.mem_singleton.mp hx]
      exact ⟨⟨h0, h1⟩, 0, rfl, rfl⟩⟩
  | n + 1, v, h0, h1 => by
    have mk : ∀ u, u ∈ kidsOf m rs (front r par v) v → (0 ≤ u ∧ u < m) ∧ u ≠ r ∧ par u = v := fun u => (mem_kids g R h0 h1).mp
    have nk : (kidsOf m rs (front r par v) v).Nodup := kids_nodup
    have ih := fun u hu => preU_ok g R n u (mk u hu).1.1 (mk u hu).1.2
    have du : ∀ u ∈ kidsOf m rs (front r par v) v, dep u = dep v + 1 := fun u hu => by
      obtain ⟨w1, w2, w3⟩ := mk u hu
      have := R.pos w1.1 w1.2 w2
      rw [w3] at this
      exact this
    unfold preU
    refine ⟨List.nodup_cons.mpr ⟨fun z => ?_, nodup_flat nk (fun u hu => (ih u hu).1) fun u hu w hw x hx hy => ?_⟩, fun x hx => ?_⟩
    · obtain ⟨u, hu, hv⟩ := List.mem_flatMap.mp z
      obtain ⟨_, k, e, _⟩ := (ih u hu).2 v hv
      have := du u hu
      omega
    · obtain ⟨_, k1, e1, f1⟩ := (ih u hu).2 x hx
      obtain ⟨_, k2, e2, f2⟩ := (ih w hw).2 x hy
      have d1 := du u hu
      have d2 := du w hw
      have : k1 = k2 := by omega
      rw [← f1, ← f2, this]
    · rcases List.mem_cons.mp hx with rfl | hx
      · exact ⟨⟨h0, h1⟩, 0, rfl, rfl⟩
      · obtain ⟨u, hu, hv⟩ := List.mem_flatMap.mp hx
        obtain ⟨xr, k, e, f⟩ := (ih u hu).2 x hv
        exact ⟨xr, k + 1, by rw [e, du u hu]; omega, by show par (up par k x) = v; rw [f]; exact (mk u hu).2.2⟩
theorem preL_len (g : Good m rs) (R : Rooted m rs r par dep) {v : Int} (h0 : 0 ≤ v) (h1 : v < m) : (preL m rs r par dep v).length ≤ 24 := by
  obtain ⟨n1, n2⟩ := preU_ok g R (m.toNat - 1 - dep v) v h0 h1
  have := nodup_len (m := m) (by omega) n1 fun x hx => (n2 x hx).1
  have := g.m24
  unfold preL
  omega
end Pb
set_option Elab.async false
set_option linter.all false
set_option maxRecDepth 100000
namespace L2
open PySem PySem.Spec PyProof.Rows
def Itv (K : PySem.W.Frag) (a : Addr) (n : Nat) : It :=
  ⟨fun i H => i < n ∧ ∃ xs x, SqL K H a xs ∧ xs[n - 1 - i]? = some x, fun i H x H' => H' = H ∧ ∀ xs, SqL K H a xs → xs[n - 1 - i]? = some x, fun i H => n ≤ i⟩
theorem turn_rev {P : Program} {w : World} {K : PySem.W.Frag} {tg : Expr} (a it : Addr) (n : Nat) : Turn P w K tg (Itv K a n) [it] it (fun i h => i ≤ n ∧ h.IsRevIter it a ((n : Int) - 1 - (i : Int))) where
  mem := by simp
  obj := fun i h st b hb => by
    have e : b = it := by simpa using hb
    subst e
    obtain ⟨_, o, e, c, d⟩ := st
    exact ⟨o, e, fun v z => by rw [d] at z; cases z⟩
  keep := fun i h h' st k => ⟨st.1, st.2.at fun o e => k it (by simp) o e⟩
  item := by
    intro X hP hw hK hc i pins s σ H E I hf st hg
    subst hP hw hK
    obtain ⟨hi, xs, x, hq, hx⟩ := hg
    obtain ⟨its, rv, p, hz⟩ := I.list hq
    obtain ⟨u, hu, ru⟩ := rv.get hx
    obtain ⟨f0, f1, f2, f3, f4, f5⟩ := hf it (by simp)
    have e0 : (n : Int) - 1 - (i : Int) = ((n - 1 - i : Nat) : Int) := by omega
    have st2 := st.2
    rw [e0] at st2
    refine wpAny_pyNext_rev_item st2 p.isList (x := u) (by simpa using hu) fun h' st' sb => ?_
    have I1 : Inv X pins σ H { s with heap := h' } := I.turned (t' := s.toks) (fun b o hb e => (sb.2 b hb).trans e) f0 f1 f3 f4 f5
    obtain ⟨o, e, c, d⟩ := id st'
    have e1 : ((n - 1 - i : Nat) : Int) - 1 = (n : Int) - 1 - ((i + 1 : Nat) : Int) := by omega
    rw [e1] at st'
    exact ⟨u, rfl, go_of (s := { s with heap := h' }) e c d (by decide) ⟨x, H, I1, ru, ⟨rfl, fun ys hy => by rw [I.list_inj hy hq]; exact hx⟩, ⟨hi, st'⟩, fun b hb => (hf b hb).1⟩⟩
  done := by
    intro X hP hw hK hc i pins s σ H E I hf st hg
    subst hP hw hK
    have hg' : n ≤ i := hg
    obtain ⟨f0, f1, f2, f3, f4, f5⟩ := hf it (by simp)
    have st2 := st.2
    have st1 := st.1
    rw [show (n : Int) - 1 - (i : Int) = -1 by omega] at st2
    exact wpAny_pyNext_rev_end (I.ok.hd hc) st2 fun h' eb => ⟨rfl, I.turned (t' := s.toks) (fun b o hb e => eb b o hb e) f0 f1 f3 f4 f5⟩
  self := fun _ _ _ _ _ st h => wpAny_pyIter_revIter st.2 h
def iRev (K : PySem.W.Frag) (tl : TE) : TI := fun σ H R => tl σ H fun x H1 => ∃ a xs, x = .ref a ∧ SqL K H1 a xs ∧ R (Itv K a xs.length) H1
section
variable {X : Cx} {tg e : Expr} {te : TE} {p2 pos : Pos}
theorem pi_rev (hg : Gl X "reversed") (hm : X.mg "reversed" = none) (he : PE X e te) (h2 : starEach [e] X.env = [(false, eval e X.env)] := by rfl) : PI X tg (.Call (.Name "reversed" p2) [e] [] pos) (iRev X.K te) := by
  intro pins s σ H R I h
  refine Call_ (ld_blt I hg hm boot_reversed (PyProof.Rows.callWith_type1 ?_ h2 rfl))
  rw [h2]
  show wpAny _ _ (spliced ((false, eval e X.env) :: backTo pos [])) _ _ s
  refine Calls.spliced_cons (thnE (he pins s σ H _ I h) fun u s1 x H1 I1 r1 q1 => Calls.spliced_nil ?_)
  obtain ⟨a, ys, ex, sa, q⟩ := q1
  subst ex
  cases r1
  obtain ⟨its, rv, pl, hz⟩ := I1.list sa
  refine call_reversed_list pl.isList ?_
  have sz : its.toArray.size = ys.length := by rw [List.size_toArray, rv.length]
  rw [sz]
  refine wpAny_pyIter_revIter (i := (ys.length : Int) - 1) (l := a) ⟨_, Heap.get?_push_size _ rfl, rfl, rfl⟩ ?_
  refine ⟨s1.heap.objs.size, [s1.heap.objs.size], _, _, H1, rfl, I1.kept (t' := s1.toks) fun b o e => Heap.get?_push_of_some _ e, turn_rev a _ ys.length, ⟨Nat.zero_le _, ?_⟩, fun b hb => ?_, q⟩
  · exact ⟨_, Heap.get?_push_size _ rfl, rfl, by simp [revObj]⟩
  · have e : b = s1.heap.objs.size := by simpa using hb
    subst e
    exact I1.fpOk (Nat.le_refl _) (I1.hok.fresh (Nat.le_refl _))
end
theorem for_revN {K : PySem.W.Frag} {a : Addr} {xs : List V} {g : TG} {tb : TS} {D : Ends} {σ : St} {H : Hp} (Pv : Nat → St → Hp → Prop) (h0 : Pv 0 σ H) (hl : ∀ i σ H, i ≤ xs.length → Pv i σ H → SqL K H a xs)
    (hs : ∀ (i : Nat) (x : V) (σ : St) (H : Hp) (N : St → Hp → Prop), (∀ σ' H', Pv (i + 1) σ' H' → N σ' H') → xs.reverse[i]? = some x → Pv i σ H → g x σ H fun σ2 H2 => tb { D with nx := N, ct := N, bk := D.nx } σ2 H2) (hd : ∀ σ H, Pv xs.length σ H → D.nx σ H) :
    ForGo (Itv K a xs.length) D g tb σ H := by
  refine ⟨fun i m σ H => m = xs.length - i ∧ i ≤ xs.length ∧ Pv i σ H, ⟨xs.length, by simp, Nat.zero_le _, h0⟩, ?_⟩
  rintro i m σ H ⟨rfl, hi, p⟩
  have q := hl i σ H hi p
  by_cases hlt : i < xs.length
  · have hx : xs[xs.length - 1 - i]? = some xs[xs.length - 1 - i] := List.getElem?_eq_getElem (by omega)
    refine .inr ⟨⟨hlt, xs, _, q, hx⟩, fun σ' H' => ∃ m', m' < xs.length - i ∧ (m' = xs.length - (i + 1) ∧ i + 1 ≤ xs.length ∧ Pv (i + 1) σ' H'), fun σ' H' z => z, fun x H' y => ?_⟩
    obtain ⟨e, y⟩ := y
    subst e
    exact hs i x σ _ _ (fun σ' H' p' => ⟨xs.length - (i + 1), by omega, rfl, hlt, p'⟩) (by rw [List.getElem?_reverse hlt]; exact y xs q) p
  · have e : i = xs.length := by omega
    subst e
    exact .inl ⟨Nat.le_refl _, hd σ H p⟩
end L2
set_option Elab.async false
set_option linter.all false
set_option maxRecDepth 100000
namespace L2
open PySem PySem.Spec PyProof.Rows
def tListR (te : TE) : TE := fun σ H Q => te σ H fun x H1 => ∃ i, x = .int i ∧ 0 ≤ i ∧ i ≤ 100000 ∧ ∀ l, H1 l = none → Q (.ref l) (upd H1 l (.lst ((Pb.below i.toNat).map V.int)))
section
variable {X : Cx} {e : Expr} {te : TE} {p1 p2 pos pos2 : Pos}
end
end L2
set_option Elab.async false
set_option linter.all false
set_option maxRecDepth 100000
namespace L2
open PySem PySem.Spec PyProof.Rows PySem.W
section
variable {X : Cx}
end
end L2
set_option Elab.async false
set_option linter.all false
set_option maxRecDepth 100000
namespace L2
open PySem PySem.Spec PyProof.Rows
theorem pb_sum : bootBuiltins "sum" = some (.builtin "sum") := by decide +kernel
theorem preSum_take (ns : List Int) : ∀ n, n ≤ ns.length → preSum (fun i => ns.getD i 0) n = (ns.take n).sum
  | 0, _ => by simp [preSum]
  | n + 1, h => by
    have ih := preSum_take ns n (by omega)
    have hn : n < ns.length := by omega
    rw [List.take_succ, List.getElem?_eq_getElem hn, List.sum_append, ← ih]
    simp [preSum, List.getD, hn]
section
variable {X : Cx}
theorem call_sum (hc : X.calm = true) : CallR X (.builtin "sum") (fun xs H Q => ∃ (p : Addr) (ns : List Int), xs = [.ref p] ∧ (SqL X.K H p (ns.map V.int) ∨ SqT X.K H p (ns.map V.int)) ∧ Q (.int ns.sum) H) := by
  intro pins s σ H xs us Q I r h
  obtain ⟨p, ns, rfl, hp, q⟩ := h
  obtain ⟨u, rfl, ru⟩ := vals1 r
  cases ru
  have hh : X.A.in1.handled = none := I.ok.hd hc
  have vals : ∀ {its : List Value}, Vals (ns.map V.int) its → its.length = ns.length ∧ ∀ (i : Nat) (v : Value), its.toArray[i]? = some v → ∃ t, v = Value.int (ns.getD i 0) t := by
    intro its rv
    have hlen : its.length = ns.length := by rw [← rv.length, List.length_map]
    refine ⟨hlen, fun i v hP => ?_⟩
    have hi : its[i]? = some v := by simpa using hP
    have hib : i < ns.length := by rw [← hlen]; exact (List.getElem?_eq_some_iff.mp hi).1
    obtain ⟨u, hu, ru⟩ := rv.get (i := i) (x := V.int ns[i]) (by rw [List.getElem?_map, List.getElem?_eq_getElem hib]; rfl)
    rw [hi] at hu; cases hu
    obtain ⟨t, e⟩ := (show ∃ t, v = Value.int ns[i] t from ru)
    exact ⟨t, by rw [e]; simp [List.getD, hib]⟩
  have fin : ∀ {n : Nat}, n = ns.length → preSum (fun i => ns.getD i 0) n = ns.sum := fun {n} e => by rw [preSum_take ns n (by omega), List.take_of_length_le (by omega)]
  rcases hp with hp | hp
  · obtain ⟨its, rv, pl, hz⟩ := I.list hp
    obtain ⟨hlen, hv⟩ := vals rv
    have hl := pl.isList
    have hlt := pl.lt
    refine call_sum_walkG (wpAny_pyIter_list hl ?_)
    refine ⟨s.heap.objs.size, [s.heap.objs.size, p], [s.heap.objs.size], its.toArray.size, _, _, fun i => ns.getD i 0, rfl, Walks.list (A := X.A.in1) hh _ p (Nat.ne_of_lt hlt) its.toArray,
      ⟨⟨_, Heap.get?_push_size _ rfl, rfl, rfl⟩, hl.push _⟩, fun b hb => ?_, fun i v hP => hv i v hP, fun h' tk t' hk => ?_⟩
    · simp only [Heap.push, Array.size_push]
      rcases List.mem_cons.mp hb with e | e
      · rw [e]; exact Nat.lt_succ_self _
      · rw [List.mem_singleton.mp e]; exact Nat.lt_succ_of_lt hlt
    · have kk : ∀ b o, s.heap.get? b = some o → h'.get? b = some o := fun b o eb => hk b o (fun hm => by rw [List.mem_singleton.mp hm] at eb; exact Nat.lt_irrefl _ (Heap.lt_size eb)) (Heap.get?_push_of_some _ eb)
      rw [fin (by rw [List.size_toArray, hlen])]
      exact ⟨.int _, H, I.kept (t' := tk) kk, ⟨t', rfl⟩, q⟩
  · obtain ⟨its, rv, pl, hz⟩ := I.tuple hp
    obtain ⟨hlen, hv⟩ := vals rv
    have hl : s.heap.IsTuple p its.toArray := pl
    have hlt : p < s.heap.objs.size := by
      obtain ⟨o, e, _⟩ := id hl
      exact Heap.lt_size e
    refine call_sum_walkG (wpAny_pyIter_tuple hl ?_)
    refine ⟨s.heap.objs.size, [s.heap.objs.size, p], [s.heap.objs.size], its.toArray.size, _, _, fun i => ns.getD i 0, rfl, Walks.tuple (A := X.A.in1) hh _ p (Nat.ne_of_lt hlt) its.toArray,
      ⟨⟨_, Heap.get?_push_size _ rfl, rfl, rfl⟩, hl.push _⟩, fun b hb => ?_, fun i v hP => hv i v hP, fun h' tk t' hk => ?_⟩
    · simp only [Heap.push, Array.size_push]
      rcases List.mem_cons.mp hb with e | e
      · rw [e]; exact Nat.lt_succ_self _
      · rw [List.mem_singleton.mp e]; exact Nat.lt_succ_of_lt hlt
    · have kk : ∀ b o, s.heap.get? b = some o → h'.get? b = some o := fun b o eb => hk b o (fun hm => by rw [List.mem_singleton.mp hm] at eb; exact Nat.lt_irrefl _ (Heap.lt_size eb)) (Heap.get?_push_of_some _ eb)
      rw [fin (by rw [List.size_toArray, hlen])]
      exact ⟨.int _, H, I.kept (t' := tk) kk, ⟨t', rfl⟩, q⟩
end
theorem pg_tupK {X : Cx} (K : PySem.W.Frag) (hK : X.K = K) {es : List Expr} {k : Nat} {pos : Pos} {t : TGs} {n : Nat} (hc : X.calm = true) (h : PGs X es t)
    (hn : (assignEach es X.env).length = n := by rfl) (hst : (assignEach es X.env).findIdx? (·.1) = none := by rfl) : PG X (.Tuple es k pos) (gTup K n t) := by
  subst hK
  exact pg_tup hc h hn hst
theorem comp_zip {K : PySem.W.Frag} {c d : Bool} {a b p : Addr} {xs zs : List V} {Q : VK} {g : TG} {tc : TT} {te : TE} {σ0 : St} {H0 : Hp} (Pv : Nat → List V → St → Hp → Prop) (h0 : Pv 0 [] σ0 H0) (hl : ∀ i ys σ H, Pv i ys σ H → SqX K c H a xs ∧ SqX K d H b zs)
    (hs : ∀ (i : Nat) (x z : V) (ys : List V) (σ : St) (H : Hp) (q : Addr) (N : List V → St → Hp → Prop), (∀ ys' σ' H', Pv (i + 1) ys' σ' H' → N ys' σ' H') → xs[i]? = some x → zs[i]? = some z → Pv i ys σ H → H q = none → g (.ref q) σ (upd H q (.tup [x, z])) fun σ2 H2 => tc σ2 H2 fun b H3 =>
      if b = true then te σ2 H3 fun y H4 => H4 p = some (.lst ys) ∧ ys.length < sizeLine ∧ N (ys ++ [y]) σ2 (upd H4 p (.lst (ys ++ [y]))) else N ys σ2 H3)
    (hd : ∀ ys σ H, Pv (min xs.length zs.length) ys σ H → Q (.ref p) H) : CompGo (Itz K c d a b) p Q g tc te σ0 H0 := by
  refine ⟨fun i m ys σ H => m = min xs.length zs.length - i ∧ i ≤ min xs.length zs.length ∧ Pv i ys σ H, ⟨_, rfl, Nat.zero_le _, h0⟩, ?_⟩
  rintro i m ys σ H ⟨rfl, hi, pv⟩
  obtain ⟨q1, q2⟩ := hl i ys σ H pv
  by_cases hlt : i < min xs.length zs.length
  · refine .inr ⟨⟨xs, zs, xs[i]'(by omega), zs[i]'(by omega), q1, q2, List.getElem?_eq_getElem (by omega), List.getElem?_eq_getElem (by omega)⟩, fun x H' y => ?_⟩
    obtain ⟨p', x', y', hp, rfl, rfl, e1, e2⟩ := y
    exact hs i x' y' ys σ H p' (fun ys' σ' H' => ∃ m', m' < min xs.length zs.length - i ∧ (m' = min xs.length zs.length - (i + 1) ∧ i + 1 ≤ min xs.length zs.length ∧ Pv (i + 1) ys' σ' H')) (fun ys' σ' H' pv' => ⟨min xs.length zs.length - (i + 1), by omega, rfl, hlt, pv'⟩) (e1 xs q1) (e2 zs q2) pv hp
  · have e : i = min xs.length zs.length := by omega
    subst e
    exact .inl ⟨⟨xs, zs, q1, q2, by omega⟩, hd ys σ H pv⟩
theorem setR {H : Hp} {l : Addr} {xs : List V} {i : Int} {v : V} {Q : Hp → Prop} (h : H l = some (.lst xs)) (i0 : 0 ≤ i) (i1 : i < xs.length) (q : Q (upd H l (.lst (xs.set i.toNat v)))) : rSetL (.ref l) (.int i) v H Q :=
  ⟨l, xs, i, i.toNat, rfl, rfl, h, by unfold ixN; rw [if_pos i0, if_pos (by omega)], q⟩
theorem atG {xs : List Int} {i : Int} (i0 : 0 ≤ i) (i1 : i < xs.length) : atI (xs.map V.int) i = some (.int (xs.getD i.toNat 0)) := atI_int i0 (by
  have h : i.toNat < xs.length := by omega
  rw [List.getElem?_map, List.getElem?_eq_getElem h]
  simp [List.getD, h])
theorem flatR (n : Nat) (v : V) : (List.replicate n [v]).flatten = List.replicate n v := by
  induction n with
  | zero => rfl
  | succ n ih => rw [List.replicate_succ, List.flatten_cons, ih, List.replicate_succ]; rfl
theorem comp_rev {K : PySem.W.Frag} {a p : Addr} {xs : List V} {Q : VK} {g : TG} {tc : TT} {te : TE} {σ0 : St} {H0 : Hp} (Pv : Nat → List V → St → Hp → Prop) (h0 : Pv 0 [] σ0 H0) (hl : ∀ i ys σ H, i ≤ xs.length → Pv i ys σ H → SqL K H a xs)
    (hs : ∀ (i : Nat) (x : V) (ys : List V) (σ : St) (H : Hp) (N : List V → St → Hp → Prop), (∀ ys' σ' H', Pv (i + 1) ys' σ' H' → N ys' σ' H') → xs.reverse[i]? = some x → Pv i ys σ H → g x σ H fun σ2 H2 => tc σ2 H2 fun b H3 =>
      if b = true then te σ2 H3 fun y H4 => H4 p = some (.lst ys) ∧ ys.length < sizeLine ∧ N (ys ++ [y]) σ2 (upd H4 p (.lst (ys ++ [y]))) else N ys σ2 H3)
    (hd : ∀ ys σ H, Pv xs.length ys σ H → Q (.ref p) H) : CompGo (Itv K a xs.length) p Q g tc te σ0 H0 := by
  refine ⟨fun i m ys σ H => m = xs.length - i ∧ i ≤ xs.length ∧ Pv i ys σ H, ⟨xs.length, by simp, Nat.zero_le _, h0⟩, ?_⟩
  rintro i m ys σ H ⟨rfl, hi, pv⟩
  have q := hl i ys σ H hi pv
  by_cases hlt : i < xs.length
  · have hx : xs[xs.length - 1 - i]? = some xs[xs.length - 1 - i] := List.getElem?_eq_getElem (by omega)
    refine .inr ⟨⟨hlt, xs, _, q, hx⟩, fun x H' y => ?_⟩
    obtain ⟨e, y⟩ := y
    subst e
    exact hs i x ys σ _ (fun ys' σ' H' => ∃ m', m' < xs.length - i ∧ (m' = xs.length - (i + 1) ∧ i + 1 ≤ xs.length ∧ Pv (i + 1) ys' σ' H')) (fun ys' σ' H' pv' => ⟨xs.length - (i + 1), by omega, rfl, hlt, pv'⟩) (by rw [List.getElem?_reverse hlt]; exact y xs q) pv
  · have e : i = xs.length := by omega
    subst e
    exact .inl ⟨Nat.le_refl _, hd ys σ H pv⟩
end L2
set_option Elab.async false
set_option linter.all false
set_option maxRecDepth 100000
namespace Pb
open L2
def After (par : Int → Int) : List Int → List Int → Prop
  | _, [] => True
  | S, c :: t => par c ∈ S ∧ After par (c :: S) t
section
variable {m : Int} {rs : List Road} {r : Int} {par : Int → Int} {dep : Int → Nat}
theorem After.mono : ∀ {l S S' : List Int}, (∀ x ∈ S, x ∈ S') → After par S l → After par S' l
  | [], _, _, _, _ => trivial
  | c :: t, S, S', h, a => ⟨h _ a.1, After.mono (fun x hx => by
      rcases List.mem_cons.mp hx with e | e
      · exact List.mem_cons.mpr (.inl e)
      · exact List.mem_cons_of_mem _ (h x e)) a.2⟩
theorem After.append : ∀ {l1 l2 S : List Int}, After par S l1 → After par S l2 → After par S (l1 ++ l2)
  | [], _, _, _, b => b
  | c :: t, l2, S, a, b => ⟨a.1, After.append a.2 (b.mono fun x hx => List.mem_cons_of_mem _ hx)⟩
theorem After.snoc {c : Int} : ∀ {l S : List Int}, After par S l → (par c ∈ S ∨ par c ∈ l) → After par S (l ++ [c])
  | [], S, _, h => ⟨h.resolve_right (by simp), trivial⟩
  | d :: t, S, a, h => ⟨a.1, After.snoc a.2 (by
      rcases h with h | h
      · exact .inl (List.mem_cons_of_mem _ h)
      · rcases List.mem_cons.mp h with e | e
        · exact .inl (List.mem_cons.mpr (.inl e))
        · exact .inr e)⟩
theorem After.up : ∀ {A B S : List Int}, After par S (A ++ B) → ∀ k ∈ A, par k ∈ S ∨ par k ∈ A
  | [], _, _, _, k, hk => by cases hk
  | c :: t, B, S, a, k, hk => by
    rcases List.mem_cons.mp hk with e | e
    · rw [e]; exact .inl a.1
    · rcases After.up (A := t) (B := B) a.2 k e with h | h
      · rcases List.mem_cons.mp h with h | h
        · exact .inr (by rw [h]; exact List.mem_cons_self)
        · exact .inl h
      · exact .inr (List.mem_cons_of_mem _ h)
structure Order (m r : Int) (par : Int → Int) (t : List Int) : Prop where
  nd : (r :: t).Nodup
  rng : ∀ v ∈ t, 0 ≤ v ∧ v < m
  all : ∀ v, 0 ≤ v → v < m → v = r ∨ v ∈ t
  af : After par [r] t
theorem Order.ne {t : List Int} (O : Order m r par t) {v : Int} (h : v ∈ t) : v ≠ r := fun z => (List.nodup_cons.mp O.nd).1 (z ▸ h)
theorem preU_after (g : Good m rs) (R : Rooted m rs r par dep) : ∀ (n : Nat) (v : Int) (S : List Int), 0 ≤ v → v < m → par v ∈ S → After par S (preU m rs r par n v)
  | 0, v, S, _, _, h => ⟨h, trivial⟩
  | n + 1, v, S, h0, h1, h => by
    refine ⟨h, ?_⟩
    have : ∀ (ks : List Int) (S : List Int), v ∈ S → (∀ u ∈ ks, u ∈ kidsOf m rs (front r par v) v) → After par S (ks.flatMap (preU m rs r par n)) := by
      intro ks
      induction ks with
      | nil => intro S _ _; exact trivial
      | cons u ks ih =>
        intro S hv hk
        rw [List.flatMap_cons]
        obtain ⟨w1, w2, w3⟩ := (mem_kids g R h0 h1).mp (hk u List.mem_cons_self)
        exact (preU_after g R n u S w1.1 w1.2 (by rw [w3]; exact hv)).append (ih S hv fun x hx => hk x (List.mem_cons_of_mem _ hx))
    exact this _ _ List.mem_cons_self fun u hu => hu
theorem preL_order (g : Good m rs) (R : Rooted m rs r par dep) (r0 : 0 ≤ r) (r1 : r < m) (nd : (preL m rs r par dep r).Nodup) (al : ∀ v, v ∈ preL m rs r par dep r ↔ 0 ≤ v ∧ v < m) : ∃ t, preL m rs r par dep r = r :: t ∧ Order m r par t := by
  have e := preL_step g R r0 r1
  refine ⟨_, e, ?_⟩
  rw [e] at nd al
  refine ⟨nd, fun v hv => (al v).mp (List.mem_cons_of_mem _ hv), fun v h0 h1 => List.mem_cons.mp ((al v).mpr ⟨h0, h1⟩), ?_⟩
  have : ∀ ks : List Int, (∀ u ∈ ks, u ∈ kidsOf m rs (front r par r) r) → After par [r] (ks.flatMap (preL m rs r par dep)) := by
    intro ks
    induction ks with
    | nil => intro _; exact trivial
    | cons u ks ih =>
      intro hk
      rw [List.flatMap_cons]
      obtain ⟨w1, w2, w3⟩ := (mem_kids g R r0 r1).mp (hk u List.mem_cons_self)
      exact (preU_after g R _ u [r] w1.1 w1.2 (by rw [w3]; exact List.mem_cons_self)).append (ih fun x hx => hk x (List.mem_cons_of_mem _ hx))
  exact this _ fun u hu => hu
def gatU (m : Int) (rs : List Road) (r : Int) (par : Int → Int) (held : Int → Int) (con : Int → Int → Int) : Nat → Int → Int
  | 0, v => held v
  | n + 1, v => held v + ((kidsOf m rs (front r par v) v).map fun c => con c (gatU m rs r par held con n c)).sum
def gat (m : Int) (rs : List Road) (r : Int) (par : Int → Int) (dep : Int → Nat) (held : Int → Int) (con : Int → Int → Int) (v : Int) : Int := gatU m rs r par held con (m.toNat - 1 - dep v) v
variable {held : Int → Int} {con : Int → Int → Int}
theorem gat_step (g : Good m rs) (R : Rooted m rs r par dep) {v : Int} (h0 : 0 ≤ v) (h1 : v < m) : gat m rs r par dep held con v = held v + ((kidsOf m rs (front r par v) v).map fun c => con c (gat m rs r par dep held con c)).sum := by
  have mk : ∀ u, u ∈ kidsOf m rs (front r par v) v → (0 ≤ u ∧ u < m) ∧ u ≠ r ∧ par u = v := fun u => (mem_kids g R h0 h1).mp
  have du : ∀ u ∈ kidsOf m rs (front r par v) v, dep u = dep v + 1 ∧ dep u + 1 ≤ m.toNat := fun u hu => by
    obtain ⟨w1, w2, w3⟩ := mk u hu
    have := R.pos w1.1 w1.2 w2
    rw [w3] at this
    exact ⟨this, dep_lt R w1.1 w1.2⟩
  unfold gat
  cases e : m.toNat - 1 - dep v with
  | zero =>
    have : kidsOf m rs (front r par v) v = [] := List.eq_nil_iff_forall_not_mem.mpr fun u hu => by
      have := du u hu
      omega
    rw [this]
    simp [gatU]
  | succ n =>
    show held v + _ = _
    rw [List.map_congr_left fun u hu => show con u (gatU m rs r par held con n u) = con u (gatU m rs r par held con (m.toNat - 1 - dep u) u) by rw [show m.toNat - 1 - dep u = n by have := du u hu; omega]]
theorem perm_sum {l l' : List Int} (h : l.Perm l') : l.sum = l'.sum := by
  induction h with
  | nil => rfl
  | cons x _ ih => rw [List.sum_cons, List.sum_cons, ih]
  | swap x y l => simp only [List.sum_cons]; omega
  | trans _ _ h1 h2 => exact h1.trans h2
def gstep (par : Int → Int) (con : Int → Int → Int) (cs : List Int) (v : Int) : List Int := cs.set (par v).toNat (cs.getD (par v).toNat 0 + con v (cs.getD v.toNat 0))
structure Sofar (m : Int) (rs : List Road) (r : Int) (par : Int → Int) (dep : Int → Nat) (held : Int → Int) (con : Int → Int → Int) (t cs : List Int) : Prop where
  len : (cs.length : Int) = m
  val : ∀ v, 0 ≤ v → v < m → cs.getD v.toNat 0 = held v + ((t.filter fun c => decide (par c = v)).map fun c => con c (gat m rs r par dep held con c)).sum
theorem Sofar.nil {hs : List Int} (h : (hs.length : Int) = m) : Sofar m rs r par dep (fun v => hs.getD v.toNat 0) con [] hs := ⟨h, fun v _ _ => by simp⟩
theorem kids_of_row (g : Good m rs) (R : Rooted m rs r par dep) {t : List Int} (nd : t.Nodup) (tr : ∀ x ∈ t, (0 ≤ x ∧ x < m) ∧ x ≠ r) {v : Int} (h0 : 0 ≤ v) (h1 : v < m) (hk : ∀ k, 0 ≤ k → k < m → k ≠ r → par k = v → k ∈ t) : (t.filter fun c => decide (par c = v)).Perm (kidsOf m rs (front r par v) v) := by
  refine perm_of_nodup (nd.filter _) kids_nodup fun x => ?_
  rw [List.mem_filter, mem_kids g R h0 h1, decide_eq_true_eq]
  exact ⟨fun h => ⟨(tr x h.1).1, (tr x h.1).2, h.2⟩, fun h => ⟨hk x h.1.1 h.1.2 h.2.1 h.2.2, h.2.2⟩⟩
theorem Sofar.full (g : Good m rs) (R : Rooted m rs r par dep) {t cs : List Int} (s : Sofar m rs r par dep held con t cs) (nd : t.Nodup) (tr : ∀ x ∈ t, (0 ≤ x ∧ x < m) ∧ x ≠ r) {v : Int} (h0 : 0 ≤ v) (h1 : v < m) (hk : ∀ k, 0 ≤ k → k < m → k ≠ r → par k = v → k ∈ t) : cs.getD v.toNat 0 = gat m rs r par dep held con v := by
  rw [s.val v h0 h1, gat_step g R h0 h1, perm_sum ((kids_of_row g R nd tr h0 h1 hk).map _)]
theorem Sofar.step (g : Good m rs) (R : Rooted m rs r par dep) {t cs : List Int} (s : Sofar m rs r par dep held con t cs) {v : Int} (h0 : 0 ≤ v) (h1 : v < m) (hr : v ≠ r) (e : cs.getD v.toNat 0 = gat m rs r par dep held con v) : Sofar m rs r par dep held con (v :: t) (gstep par con cs v) where
  len := by unfold gstep; rw [List.length_set]; exact s.len
  val := fun u u0 u1 => by
    have pu := (R.up v h0 h1 hr).1
    have sl := s.len
    have vu := s.val u u0 u1
    unfold gstep
    rw [e]
    by_cases c : par v = u
    · have hl : u.toNat < cs.length := by omega
      rw [List.filter_cons_of_pos (by simpa using c), List.map_cons, List.sum_cons, c]
      rw [show (cs.set u.toNat (cs.getD u.toNat 0 + con v (gat m rs r par dep held con v))).getD u.toNat 0 = cs.getD u.toNat 0 + con v (gat m rs r par dep held con v) by simp [List.getD, hl], vu]
      omega
    · rw [List.filter_cons_of_neg (by simpa using c), ← vu]
      have : (par v).toNat ≠ u.toNat := by omega
      simp [List.getD, List.getElem?_set_ne this]
theorem Order.places {t : List Int} (O : Order m r par t) : ∀ x ∈ t, (0 ≤ x ∧ x < m) ∧ x ≠ r := fun x hx => ⟨O.rng x hx, O.ne hx⟩
theorem Order.turn (g : Good m rs) (R : Rooted m rs r par dep) {t cs : List Int} (O : Order m r par t) {i : Nat} {v : Int} (s : Sofar m rs r par dep held con (t.drop (t.length - i)) cs) (hv : t.reverse[i]? = some v) :
    ((0 ≤ v ∧ v < m) ∧ v ≠ r) ∧ cs.getD v.toNat 0 = gat m rs r par dep held con v ∧ Sofar m rs r par dep held con (t.drop (t.length - (i + 1))) (gstep par con cs v) := by
  have hi : i < t.length := by
    have := (List.getElem?_eq_some_iff.mp hv).1
    rwa [List.length_reverse] at this
  rw [List.getElem?_reverse hi] at hv
  generalize hj : t.length - 1 - i = j at hv
  have ej : t.length - i = j + 1 := by omega
  have ej' : t.length - (i + 1) = j := by omega
  rw [ej] at s
  rw [ej']
  have hjl : j < t.length := by omega
  have vm : v ∈ t := List.mem_of_getElem? hv
  have vp := O.places v vm
  have ed : t.drop j = v :: t.drop (j + 1) := by
    rw [List.drop_eq_getElem_cons hjl]
    rw [List.getElem?_eq_getElem hjl] at hv
    cases hv
    rfl
  have es : t = t.take j ++ v :: t.drop (j + 1) := by rw [← ed, List.take_append_drop]
  have ndt := (List.nodup_cons.mp O.nd).2
  have nd2 := ndt
  rw [es] at nd2
  have av : v ∉ t.take j := fun z => (List.nodup_append.mp nd2).2.2 v z v List.mem_cons_self rfl
  have e := s.full g R (ndt.sublist (List.drop_sublist _ _)) (fun x hx => O.places x (List.mem_of_mem_drop hx)) vp.1.1 vp.1.2 fun k k0 k1 kr pk => by
    rcases O.all k k0 k1 with z | z
    · exact absurd z kr
    · rw [es] at z
      rcases List.mem_append.mp z with z | z
      · have af := O.af
        rw [es] at af
        rcases af.up k z with w | w
        · rw [pk] at w
          exact absurd (List.mem_singleton.mp w) vp.2
        · rw [pk] at w
          exact absurd w av
      · rcases List.mem_cons.mp z with z | z
        · subst z
          exact absurd pk (R.ne k0 k1 kr)
        · exact z
  exact ⟨vp, e, by rw [ed]; exact s.step g R vp.1.1 vp.1.2 vp.2 e⟩
def gatL (m : Int) (rs : List Road) (r : Int) (par : Int → Int) (dep : Int → Nat) (held : Int → Int) (con : Int → Int → Int) : List Int := (below m.toNat).map (gat m rs r par dep held con)
theorem gatL_get {v : Int} (h0 : 0 ≤ v) (h1 : v < m) : (gatL m rs r par dep held con).getD v.toNat 0 = gat m rs r par dep held con v := by
  unfold gatL
  rw [List.getD, List.getElem?_map, below_get (by omega), Int.toNat_of_nonneg h0]
  rfl
theorem Order.done (g : Good m rs) (R : Rooted m rs r par dep) {t cs : List Int} (O : Order m r par t) (s : Sofar m rs r par dep held con t cs) : cs = gatL m rs r par dep held con := by
  have sl := s.len
  refine List.ext_getElem? fun i => ?_
  by_cases h : i < m.toNat
  · have hc : i < cs.length := by omega
    have e := s.full g R (List.nodup_cons.mp O.nd).2 O.places (v := (i : Int)) (by omega) (by omega) fun k k0 k1 kr pk => (O.all k k0 k1).resolve_left kr
    unfold gatL
    rw [List.getElem?_map, below_get h]
    rw [Int.toNat_natCast, List.getD, List.getElem?_eq_getElem hc] at e
    rw [List.getElem?_eq_getElem hc]
    exact congrArg some e
  · unfold gatL
    rw [List.getElem?_eq_none (by omega), List.getElem?_eq_none (by rw [List.length_map, below_length]; omega)]
def giv (rs : List Road) (par : Int → Int) (v x : Int) : Int := x / (tollOf rs v (par v)).getD 1
theorem giv_zero (v : Int) : giv rs par v 0 = 0 := by unfold giv; exact Int.zero_ediv _
end
end Pb
set_option Elab.async false
set_option linter.all false
set_option maxRecDepth 100000
namespace Pb
open L2
section
variable {m : Int} {rs : List Road} {r : Int} {par : Int → Int} {dep : Int → Nat} {held : Int → Int}
theorem gatU_nn (hz : ∀ v, 0 ≤ held v) (hc : ∀ v x, 0 ≤ x → 0 ≤ giv rs par v x) : ∀ (n : Nat) (v : Int), 0 ≤ gatU m rs r par held (giv rs par) n v
  | 0, v => hz v
  | n + 1, v => by
    show 0 ≤ held v + _
    have : ∀ l : List Int, 0 ≤ (l.map fun c => giv rs par c (gatU m rs r par held (giv rs par) n c)).sum := by
      intro l
      induction l with
      | nil => exact Int.le_refl _
      | cons c l ih =>
        rw [List.map_cons, List.sum_cons]
        have := hc c _ (gatU_nn hz hc n c)
        omega
    have h1 := this (kidsOf m rs (front r par v) v)
    have h2 := hz v
    omega
theorem giv_nn (g : Good m rs) (v x : Int) (h : 0 ≤ x) : 0 ≤ giv rs par v x := by
  unfold giv
  refine Int.ediv_nonneg h ?_
  cases e : tollOf rs v (par v) with
  | none => decide
  | some k =>
    have ad := toll_adj.mp (show (tollOf rs v (par v)).isSome = true by rw [e]; rfl)
    obtain ⟨x, hx, j⟩ := ad
    obtain ⟨i, hi⟩ := List.getElem?_of_mem hx
    have ok := g.ok x hx
    rw [tollOf_at g hi (by rcases j with ⟨a, b⟩ | ⟨a, b⟩; exact .inl ⟨a, b⟩; exact .inr ⟨a, b⟩)] at e
    unfold toll1 at e
    have t0 := ok.t0
    have u0 := ok.u0
    show 0 ≤ k
    split at e
    · cases e; omega
    · split at e
      · cases e; omega
      · cases e
theorem gat_nn (g : Good m rs) (hz : ∀ v, 0 ≤ held v) (v : Int) : 0 ≤ gat m rs r par dep held (giv rs par) v := gatU_nn hz (giv_nn g) _ _
theorem getD_set (l : List Int) (i j : Nat) (x : Int) (h : i < l.length) : (l.set i x).getD j 0 = if i = j then x else l.getD j 0 := by
  by_cases c : i = j
  · subst c
    rw [if_pos rfl]
    simp [List.getD, h]
  · rw [if_neg c]
    simp [List.getD, List.getElem?_set_ne c]
end
section
open PySem
end
end Pb
set_option Elab.async false
set_option linter.all false
set_option maxRecDepth 100000
namespace L2
open PySem PySem.Spec PyProof.Rows
def cutI (xs : List Int) (lo hi : Option Int) : List Int := (xs.drop (HT.sIx xs.length 0 lo)).take (HT.sIx xs.length xs.length hi - HT.sIx xs.length 0 lo)
theorem cut_ints (xs : List Int) (lo hi : Option Int) : cutV (xs.map V.int) lo hi = (cutI xs lo hi).map V.int := by
  unfold cutV cutI
  rw [List.length_map, List.map_take, List.map_drop]
theorem cutI_len (xs : List Int) (lo hi : Option Int) : (cutI xs lo hi).length ≤ xs.length := by
  unfold cutI
  rw [List.length_take, List.length_drop]
  omega
end L2
set_option Elab.async false
set_option linter.all false
set_option maxRecDepth 100000
namespace L2
open PySem PySem.Spec PyProof.Rows
def Itrs (lo st : Int) (n : Nat) : It := ⟨fun i _ => i < n, fun i H x H' => H' = H ∧ x = .int (lo + i * st), fun i _ => n ≤ i⟩
def iRng3 (ta : TA) : TI := fun σ H R => ta σ H fun vs H1 => ∃ i j c : Int, vs = [.int i, .int j, .int c] ∧ (0 ≤ i ∧ i ≤ 1000000 ∧ 0 ≤ j ∧ j ≤ 1000000 ∧ 0 < c ∧ c ≤ 1000000) ∧ R (Itrs i c (Builtin.Range.rangeSize i j c).toNat) H1
section
variable {X : Cx} {tg : Expr}
end
end L2
set_option Elab.async false
set_option linter.all false
set_option maxRecDepth 100000
namespace L2
open PySem PySem.Spec PyProof.Rows
def rIxX (K : PySem.W.Frag) (c : Bool) : R2 := fun x y H Q => ∃ p xs i v, x = .ref p ∧ y = .int i ∧ SqX K c H p xs ∧ atI xs i = some v ∧ Q v H
theorem ix_any {X : Cx} (c : Bool) : IxR X (rIxX X.K c) := by
  cases c
  · exact ix_tup
  · exact ix_list
theorem ixX {K : PySem.W.Frag} {c : Bool} {H : Hp} {p : Addr} {xs : List V} {i : Int} {v : V} {Q : VK} (h : SqX K c H p xs) (e : atI xs i = some v) (q : Q v H) : rIxX K c (.ref p) (.int i) H Q := ⟨p, xs, i, v, rfl, rfl, h, e, q⟩
theorem if_join {c : Prop} [Decidable c] {A B : Prop} {P : Int → Prop} (m1 m2 : Int) (hB : P m2 → B) (hA : P m1 → A) (h : ∀ m, (m = m1 ∨ m = m2) → P m) : if c then A else B := by
  by_cases z : c
  · rw [if_pos z]; exact hA (h _ (.inl rfl))
  · rw [if_neg z]; exact hB (h _ (.inr rfl))
end L2
namespace Pb
open L2 PySem
theorem pr_take {α β : Type} {R : α → β → Prop} : ∀ (n : Nat) {l₁ : List α} {l₂ : List β}, Paired R l₁ l₂ → Paired R (l₁.take n) (l₂.take n)
  | 0, _, _, _ => by rw [List.take_zero, List.take_zero]; exact .nil
  | _ + 1, _, _, .nil => .nil
  | n + 1, _, _, .cons x xs => .cons x (pr_take n xs)
theorem pr_drop {α β : Type} {R : α → β → Prop} : ∀ (n : Nat) {l₁ : List α} {l₂ : List β}, Paired R l₁ l₂ → Paired R (l₁.drop n) (l₂.drop n)
  | 0, _, _, h => h
  | _ + 1, _, _, .nil => .nil
  | n + 1, _, _, .cons x xs => pr_drop n xs
theorem pr_app {α β : Type} {R : α → β → Prop} {k₁ : List α} {k₂ : List β} (h : Paired R k₁ k₂) : ∀ {l₁ : List α} {l₂ : List β}, Paired R l₁ l₂ → Paired R (l₁ ++ k₁) (l₂ ++ k₂)
  | _, _, .nil => h
  | _, _, .cons x xs => .cons x (pr_app h xs)
theorem pr_ins {α β : Type} {R : α → β → Prop} {ps : List α} {rs : List β} {q : α} {r : β} (n : Nat) (h : Paired R ps rs) (e : R q r) : Paired R (ps.take n ++ q :: ps.drop n) (rs.take n ++ r :: rs.drop n) := pr_app (.cons e (pr_drop n h)) (pr_take n h)
theorem rows_snoc {n : Nat} {rows : List Row} {row : Row} (R : Rows n rows) (k : row.k = (n : Int) + 1) (ok : RowOk row) : Rows (n + 1) (rows ++ [row]) := by
  have rl := R.len
  refine ⟨by rw [List.length_append, rl]; rfl, fun j r hj => ?_⟩
  by_cases hjl : j < rows.length
  · rw [List.getElem?_append_left hjl] at hj
    exact R.ok j r hj
  · have hj2 : j = rows.length := by
      have := (List.getElem?_eq_some_iff.mp hj).1
      rw [List.length_append] at this
      simp at this
      omega
    rw [hj2, List.getElem?_append_right (Nat.le_refl _), Nat.sub_self] at hj
    cases hj
    exact ⟨by rw [hj2, rl]; exact k, ok⟩
section
variable {m : Int} {rs : List Road} {r : Int} {par : Int → Int} {dep : Int → Nat}
def kidsTo (rs : List Road) (fv : V) (p : Int) (i : Nat) : List Int := ((below i).filter fun q => (tollOf rs p q).isSome).filter fun v => decide (V.int v ≠ fv)
theorem below_succ (i : Nat) : below (i + 1) = below i ++ [(i : Int)] := by
  unfold below
  rw [List.range_succ, List.map_append]
  rfl
theorem kidsTo_all (p : Int) (fv : V) : kidsTo rs fv p m.toNat = kidsOf m rs fv p := by
  unfold kidsTo kidsOf
  rw [nbrs_toll]
theorem kidsTo_pos {fv : V} {p : Int} {i : Nat} (h1 : (tollOf rs p (i : Int)).isSome = true) (h2 : V.int (i : Int) ≠ fv) : kidsTo rs fv p (i + 1) = kidsTo rs fv p i ++ [(i : Int)] := by
  unfold kidsTo
  rw [below_succ, List.filter_append, List.filter_append]
  congr 1
  simp [h1, h2]
theorem kidsTo_neg {fv : V} {p : Int} {i : Nat} (h : (tollOf rs p (i : Int)).isSome = true → ¬ V.int (i : Int) ≠ fv) : kidsTo rs fv p (i + 1) = kidsTo rs fv p i := by
  unfold kidsTo
  rw [below_succ, List.filter_append, List.filter_append]
  have : ([(i : Int)].filter fun q => (tollOf rs p q).isSome).filter (fun v => decide (V.int v ≠ fv)) = [] := by
    by_cases c : (tollOf rs p (i : Int)).isSome = true
    · have := h c
      simp [c]
      simpa using this
    · simp [c]
  rw [this, List.append_nil]
structure Bfs (m : Int) (rs : List Road) (r : Int) (par : Int → Int) (t : List Int) (k : Nat) : Prop where
  J : AInv m rs r par t ((r :: t).drop k)
  af : After par [r] t
theorem Bfs.start : Bfs m rs r par [] 0 := ⟨AInv.start, trivial⟩
theorem Bfs.step (g : Good m rs) (R : Rooted m rs r par dep) (r0 : 0 ≤ r) (r1 : r < m) {t : List Int} {k : Nat} (b : Bfs m rs r par t k) {p : Int} (hp : (r :: t)[k]? = some p) : Bfs m rs r par (t ++ kidsOf m rs (front r par p) p) (k + 1) := by
  have hk := (List.getElem?_eq_some_iff.mp hp).1
  have ed : (r :: t).drop k = p :: (r :: t).drop (k + 1) := by
    rw [List.drop_eq_getElem_cons hk]
    rw [List.getElem?_eq_getElem hk] at hp
    cases hp
    rfl
  have J := b.J.step g R r0 r1 (p := p) (ws' := (r :: t).drop (k + 1)) (by rw [ed])
  have pr := b.J.at_ r0 r1 (p := p) (by rw [ed]; exact List.mem_cons_self)
  have pm : p ∈ r :: t := List.mem_of_getElem? hp
  refine ⟨?_, ?_⟩
  · rw [← List.cons_append, List.drop_append_of_le_length (by omega)]
    exact J
  · have : ∀ (ks l : List Int), (∀ u ∈ ks, u ∈ kidsOf m rs (front r par p) p) → After par [r] l → p ∈ r :: l → After par [r] (l ++ ks) := by
      intro ks
      induction ks with
      | nil => intro l _ h _; rw [List.append_nil]; exact h
      | cons u ks ih =>
        intro l hu h hpl
        obtain ⟨w1, w2, w3⟩ := (mem_kids g R pr.1 pr.2).mp (hu u List.mem_cons_self)
        have h2 : After par [r] (l ++ [u]) := h.snoc (by
          rw [w3]
          rcases List.mem_cons.mp hpl with e | e
          · exact .inl (by rw [e]; exact List.mem_cons_self)
          · exact .inr e)
        have := ih (l ++ [u]) (fun x hx => hu x (List.mem_cons_of_mem _ hx)) h2 (by
          rcases List.mem_cons.mp hpl with e | e
          · rw [e]; exact List.mem_cons_self
          · exact List.mem_cons_of_mem _ (List.mem_append_left _ e))
        rwa [List.append_assoc] at this
    exact this _ t (fun u hu => hu) b.af pm
theorem Bfs.done (R : Rooted m rs r par dep) {t : List Int} {k : Nat} (hk : (r :: t).length ≤ k) (b : Bfs m rs r par t k) : Order m r par t := by
  have J := b.J
  rw [List.drop_eq_nil_of_le hk] at J
  refine ⟨List.nodup_cons.mpr ⟨J.nr, J.nd⟩, J.rng, fun v h0 h1 => ?_, b.af⟩
  by_cases z : v = r
  · exact .inl z
  · exact .inr (J.all R v h0 h1 z)
end
end Pb
set_option Elab.async false
set_option linter.all false
set_option maxRecDepth 100000
namespace L2
open PySem PySem.Spec PyProof.Rows
section
variable {P : Program} {w : World} {A : Around} {E : Value → Shared → Prop} {s : Shared} {l : Addr} {ob : Obj} {src : Heap → Array Value → Prop} {at' : Addr → Nat → Heap → Prop}
end
def Ite (K : PySem.W.Frag) (c : Bool) (a : Addr) : It :=
  ⟨fun i H => ∃ xs x, SqX K c H a xs ∧ xs[i]? = some x,
   fun i H v H' => ∃ p x, H p = none ∧ v = .ref p ∧ H' = upd H p (.tup [.int i, x]) ∧ ∀ xs, SqX K c H a xs → xs[i]? = some x,
   fun i H => ∃ xs, SqX K c H a xs ∧ xs.length = i⟩
def iEnum (K : PySem.W.Frag) (c : Bool) (tl : TE) : TI := fun σ H R => tl σ H fun x H1 => ∃ a, x = .ref a ∧ (∃ xs, SqX K c H1 a xs) ∧ R (Ite K c a) H1
section
variable {X : Cx} {e : Expr} {te : TE} {p2 pos : Pos}
end
end L2
set_option Elab.async false
set_option linter.all false
set_option maxRecDepth 100000
namespace Pb
open L2 PySem
end Pb
namespace L2
open PySem PySem.Spec PyProof.Rows
def tPar3 (i j k : Nat) (ta : TA) : TS := fun D σ H => ta σ H fun vs H1 => ∃ v w z, vs = [v, w, z] ∧ D.nx (((σ.set i (some v)).set j (some w)).set k (some z)) H1
end L2
set_option Elab.async false
set_option linter.all false
set_option maxRecDepth 100000
namespace Pb
open L2
section
variable {m : Int} {rs : List Road} {r : Int} {par : Int → Int} {dep : Int → Nat} {held held' : Int → Int} {con : Int → Int → Int}
theorem sum_eq' {f h : Int → Int} {l : List Int} (hl : ∀ c ∈ l, f c = h c) : (l.map f).sum = (l.map h).sum := by rw [List.map_congr_left hl]
end
end Pb
set_option Elab.async false
set_option linter.all false
set_option maxRecDepth 100000
namespace L2
open PySem PySem.Spec PyProof.Rows
end L2
namespace Pb
open L2 PySem
end Pb
set_option Elab.async false
set_option linter.all false
set_option maxRecDepth 100000
namespace Pb
open L2 PySem
section
variable {m : Int} {rs : List Road}
theorem sum_set : ∀ (l : List Int) (i : Nat) (v : Int), i < l.length → (l.set i v).sum = l.sum - l.getD i 0 + v
  | [], i, v, h => by simp at h
  | a :: l, 0, v, _ => by simp; omega
  | a :: l, i + 1, v, h => by
    have ih := sum_set l i v (by simpa using h)
    have e : (a :: l).getD (i + 1) 0 = l.getD i 0 := by simp [List.getD]
    rw [List.set_cons_succ, List.sum_cons, List.sum_cons, ih, e]
    omega
end
end Pb
set_option Elab.async false
set_option linter.all false
set_option maxRecDepth 100000
namespace L2
open PySem PySem.Spec PyProof.Rows
section
variable {X : Cx} {i o : Expr} {ty td : TE}
def tDInN (ty td : TE) : TE := fun σ H Q => ty σ H fun y H1 => td σ H1 fun x H2 => ∃ a, x = .ref a ∧ ((∃ o, DGet H2 a y o ∧ Q (.bl o.isSome) H2) ∨ (y = .non ∧ (∃ kvs, H2 a = some (.dK kvs)) ∧ Q (.bl false) H2))
end
end L2
set_option Elab.async false
set_option linter.all false
set_option maxRecDepth 100000
namespace Pb
open L2 PySem
section
variable {m : Int} {rs : List Road} {r b : Int} {par : Int → Int} {dep : Int → Nat}
def benU (par : Int → Int) (b : Int) : Nat → Int → Bool
  | 0, v => decide (v = b)
  | n + 1, v => decide (v = b) || benU par b n (par v)
def ben (par : Int → Int) (dep : Int → Nat) (b v : Int) : Bool := benU par b (dep v) v
theorem ben_step (R : Rooted m rs r par dep) {v : Int} (v0 : 0 ≤ v) (v1 : v < m) (hr : v ≠ r) : ben par dep b v = (decide (v = b) || ben par dep b (par v)) := by
  unfold ben
  rw [R.pos v0 v1 hr]
  rfl
end
end Pb
namespace L2
theorem cutS {A B : TS} {D : Ends} {σ : St} {H : Hp} (h : ∀ N : St → Hp → Prop, (∀ σ' H', B D σ' H' → N σ' H') → A { D with nx := N } σ H) : tSeq A B D σ H := h (B D) fun _ _ z => z
end L2
set_option Elab.async false
set_option linter.all false
set_option maxRecDepth 100000
namespace L2
open PySem
theorem for_listH {K : PySem.W.Frag} {a : Addr} {xs : List V} {g : TG} {tb : TS} {D : Ends} {σ : St} {H : Hp} (Pv : Nat → St → Hp → Prop) (h0 : Pv 0 σ H) (hl : ∀ i σ H, i ≤ xs.length → Pv i σ H → SqL K H a xs)
    (hs : ∀ (i : Nat) (x : V) (σ : St) (H : Hp) (N B : St → Hp → Prop), (∀ σ H, (g x σ H fun σ2 H2 => tb { D with nx := N, ct := N, bk := D.nx } σ2 H2) → B σ H) → (∀ σ' H', Pv (i + 1) σ' H' → N σ' H') → xs[i]? = some x → Pv i σ H → B σ H)
    (hd : ∀ (B : St → Hp → Prop) σ H, (∀ σ H, D.nx σ H → B σ H) → Pv xs.length σ H → B σ H) : ForGo (Itl K a) D g tb σ H :=
  for_listN Pv h0 hl (fun i x σ H N hN hx p => hs i x σ H N (fun σ H => g x σ H fun σ2 H2 => tb { D with nx := N, ct := N, bk := D.nx } σ2 H2) (fun _ _ z => z) hN hx p) fun σ H p => hd (fun σ H => D.nx σ H) σ H (fun _ _ z => z) p
theorem for_rangeH {lo : Int} {n : Nat} {g : TG} {tb : TS} {D : Ends} {σ : St} {H : Hp} (Pv : Nat → St → Hp → Prop) (h0 : Pv 0 σ H)
    (hs : ∀ (i : Nat) (σ : St) (H : Hp) (N B : St → Hp → Prop), (∀ σ H, (g (.int (lo + i)) σ H fun σ2 H2 => tb { D with nx := N, ct := N, bk := D.nx } σ2 H2) → B σ H) → (∀ σ' H', Pv (i + 1) σ' H' → N σ' H') → i < n → Pv i σ H → B σ H)
    (hd : ∀ (B : St → Hp → Prop) σ H, (∀ σ H, D.nx σ H → B σ H) → Pv n σ H → B σ H) : ForGo (Itr lo n) D g tb σ H :=
  for_rangeN Pv h0 (fun i σ H N hN hi p => hs i σ H N (fun σ H => g (.int (lo + i)) σ H fun σ2 H2 => tb { D with nx := N, ct := N, bk := D.nx } σ2 H2) (fun _ _ z => z) hN hi p) fun σ H p => hd (fun σ H => D.nx σ H) σ H (fun _ _ z => z) p
theorem while_H {c : TT} {tb : TS} {D : Ends} {σ : St} {H : Hp} (W : Nat → St → Hp → Prop) (n0 : Nat) (h0 : W n0 σ H)
    (hs : ∀ (n : Nat) (σ : St) (H : Hp) (N : St → Hp → Prop) (B : Nat → St → Hp → Prop), (∀ n σ H, (c σ H fun b H1 => if b = true then ∃ N : St → Hp → Prop, (∀ σ' H', N σ' H' → ∃ m', m' < n ∧ W m' σ' H') ∧ tb { D with nx := N, ct := N, bk := D.nx } σ H1 else D.nx σ H1) → B n σ H) → (∀ n' σ' H', n' < n → W n' σ' H' → N σ' H') → (∀ σ' H', N σ' H' → ∃ m', m' < n ∧ W m' σ' H') → W n σ H → B n σ H) : tWhile c tb D σ H :=
  while_n W n0 h0 fun n σ H N hN hN2 w => hs n σ H N (fun n σ H => c σ H fun b H1 => if b = true then ∃ N : St → Hp → Prop, (∀ σ' H', N σ' H' → ∃ m', m' < n ∧ W m' σ' H') ∧ tb { D with nx := N, ct := N, bk := D.nx } σ H1 else D.nx σ H1) (fun _ _ _ z => z) hN hN2 w
theorem ex6 {α0 : Sort _} {α1 : Sort _} {α2 : Sort _} {α3 : Sort _} {α4 : Sort _} {α5 : Sort _} {P : α0 → α1 → α2 → α3 → α4 → α5 → Prop} (a0 : α0) (a1 : α1) (a2 : α2) (a3 : α3) (a4 : α4) (a5 : α5) (h : P a0 a1 a2 a3 a4 a5) : ∃ a0 a1 a2 a3 a4 a5, P a0 a1 a2 a3 a4 a5 := ⟨a0, a1, a2, a3, a4, a5, h⟩
theorem an4 {p0 p1 p2 p3 : Prop} (h0 : p0) (h1 : p1) (h2 : p2) (h3 : p3) : p0 ∧ p1 ∧ p2 ∧ p3 := ⟨h0, h1, h2, h3⟩
end L2
set_option Elab.async false
set_option linter.all false
set_option maxRecDepth 100000
namespace Pb
open L2 PySem
section
variable {m : Int} {rs : List Road} {r : Int} {par : Int → Int} {dep : Int → Nat}
variable {para parb parc : Int → Int} {depa depb depc : Int → Nat} {a b c : Int}
end
section
variable {m : Int} {rs : List Road} {r b : Int} {par : Int → Int} {dep : Int → Nat}
theorem ben_way : ∀ (n : Nat) (v : Int), benU par b n v = decide (b ∈ stepsUp par n v)
  | 0, v => by
    show decide (v = b) = decide (b ∈ [v])
    exact decide_eq_decide.mpr ⟨fun z => by rw [z]; exact List.mem_cons_self, fun z => (List.mem_singleton.mp z).symm⟩
  | n + 1, v => by
    show (decide (v = b) || benU par b n (par v)) = decide (b ∈ v :: stepsUp par n (par v))
    rw [ben_way n (par v)]
    by_cases c : v = b
    · rw [decide_eq_true c, Bool.true_or, decide_eq_true (by rw [c]; exact List.mem_cons_self)]
    · rw [decide_eq_false c, Bool.false_or]
      exact decide_eq_decide.mpr ⟨fun z => List.mem_cons_of_mem _ z, fun z => by
        rcases List.mem_cons.mp z with z | z
        · exact absurd z.symm c
        · exact z⟩
end
end Pb
set_option Elab.async false
set_option linter.all false
set_option maxRecDepth 100000
namespace Pb
open L2 PySem
section
variable {m : Int} {rs : List Road} {r b : Int} {par : Int → Int} {dep : Int → Nat}
theorem up_in : ∀ (k : Nat) (x : Int), up par (k + 1) x = up par k (par x)
  | 0, _ => rfl
  | k + 1, x => by show par (up par (k + 1) x) = par (up par k (par x)); rw [up_in k x]
theorem mem_stepsUp : ∀ (n k : Nat) (x : Int), k ≤ n → up par k x ∈ stepsUp par n x
  | 0, 0, x, _ => List.mem_cons_self
  | n + 1, 0, x, _ => List.mem_cons_self
  | n + 1, k + 1, x, h => by
    rw [up_in]
    exact List.mem_cons_of_mem _ (mem_stepsUp n k (par x) (by omega))
theorem flat_at {f : Int → List Int} : ∀ {l : List Int} {k : Nat} {p : Int}, (l.flatMap f)[k]? = some p → ∃ u ∈ l, ∃ k' rest, (f u)[k']? = some p ∧ (l.flatMap f).drop k = (f u).drop k' ++ rest
  | [], k, p, h => by simp at h
  | u :: l, k, p, h => by
    rw [List.flatMap_cons] at h ⊢
    by_cases c : k < (f u).length
    · rw [List.getElem?_append_left c] at h
      exact ⟨u, List.mem_cons_self, k, l.flatMap f, h, List.drop_append_of_le_length (Nat.le_of_lt c)⟩
    · rw [List.getElem?_append_right (by omega)] at h
      obtain ⟨w, hw, k', rest, h1, h2⟩ := flat_at h
      refine ⟨w, List.mem_cons_of_mem _ hw, k', rest, h1, ?_⟩
      rw [← h2, List.drop_append, List.drop_eq_nil_of_le (by omega), List.nil_append]
theorem pre_drop (g : Good m rs) (R : Rooted m rs r par dep) : ∀ (n : Nat) (v : Int), m.toNat - 1 - dep v = n → 0 ≤ v → v < m → ∀ (k : Nat) (p : Int), (preL m rs r par dep v)[k]? = some p → ∃ rest, (preL m rs r par dep v).drop k = preL m rs r par dep p ++ rest := by
  intro n
  induction n with
  | zero =>
    intro v hn v0 v1 k p h
    have e : preL m rs r par dep v = [v] := by unfold preL; rw [hn]; rfl
    cases k with
    | zero =>
      have : p = v := by rw [e] at h; exact (Option.some.inj h).symm
      rw [this]
      exact ⟨[], by rw [List.append_nil]; rfl⟩
    | succ k => rw [e] at h; simp at h
  | succ n ih =>
    intro v hn v0 v1 k p h
    have e := preL_step g R v0 v1
    cases k with
    | zero =>
      have : p = v := by rw [e] at h; exact (Option.some.inj h).symm
      rw [this]
      exact ⟨[], by rw [List.append_nil]; rfl⟩
    | succ k =>
      rw [e, List.getElem?_cons_succ] at h
      obtain ⟨u, hu, k', rest, h1, h2⟩ := flat_at h
      obtain ⟨ur, un, up⟩ := (mem_kids g R v0 v1).mp hu
      have du := R.pos ur.1 ur.2 un
      rw [up] at du
      have dl := dep_lt R ur.1 ur.2
      obtain ⟨rest', h3⟩ := ih u (by omega) ur.1 ur.2 k' p h1
      exact ⟨rest' ++ rest, by rw [e, List.drop_succ_cons, h2, h3, List.append_assoc]⟩
theorem pre_head (g : Good m rs) (R : Rooted m rs r par dep) {v : Int} (v0 : 0 ≤ v) (v1 : v < m) : v ∈ preL m rs r par dep v := by
  rw [preL_step g R v0 v1]
  exact List.mem_cons_self
theorem mem_pre (g : Good m rs) (R : Rooted m rs r par dep) {p : Int} (p0 : 0 ≤ p) (p1 : p < m) (x : Int) : x ∈ preL m rs r par dep p ↔ (0 ≤ x ∧ x < m) ∧ ben par dep p x = true := by
  constructor
  · intro h
    obtain ⟨xr, k, e1, e2⟩ := (preU_ok g R _ p p0 p1).2 x h
    refine ⟨xr, ?_⟩
    unfold ben
    rw [ben_way]
    refine decide_eq_true ?_
    rw [← e2]
    exact mem_stepsUp _ _ _ (by omega)
  · rintro ⟨xr, h⟩
    generalize hn : dep x = n
    induction n generalizing x with
    | zero =>
      by_cases z : x = r
      · subst z
        have : p = x := by
          unfold ben at h
          rw [R.root] at h
          exact (of_decide_eq_true h).symm
        rw [this]
        exact pre_head g R xr.1 xr.2
      · have := R.pos xr.1 xr.2 z
        omega
    | succ n ih =>
      have z : x ≠ r := fun z => by rw [z, R.root] at hn; omega
      have u := R.up x xr.1 xr.2 z
      rw [ben_step R xr.1 xr.2 z] at h
      by_cases y : x = p
      · rw [y]; exact pre_head g R p0 p1
      · rw [decide_eq_false y, Bool.false_or] at h
        have hp := ih (par x) u.1 h (by omega)
        obtain ⟨k, hk⟩ := List.getElem?_of_mem hp
        obtain ⟨rest, e⟩ := pre_drop g R _ p rfl p0 p1 k _ hk
        refine List.mem_of_mem_drop (i := k) ?_
        rw [e, preL_step g R u.1.1 u.1.2]
        refine List.mem_append_left _ (List.mem_cons_of_mem _ (List.mem_flatMap.mpr ⟨x, (mem_kids g R u.1.1 u.1.2).mpr ⟨xr, z, rfl⟩, pre_head g R xr.1 xr.2⟩))
end
end Pb
set_option Elab.async false
set_option linter.all false
namespace L2
open PySem
def CDivL (_ j : Int) : Prop := 0 < j ∧ j.natAbs.log2 < 9000
theorem op_fdivL {X : Cx} : OpR X (binaryOp .FloorDiv) (rI CDivL fun i j => .int (i / j)) := opI fun i j _ _ _ _ _ hc q => by
  have h1 : (0 : Int) < j := hc.1
  exact PyProof.Rows.floordiv_int (by omega) (by rw [Int.fdiv_eq_ediv_of_nonneg i (by omega)]; exact q) (.inl (PyProof.noPylong_of_log2 hc.2))
end L2
namespace Pb
open PySem L2
def vPr (r : Int) (par : Int → Int) (v : Int) : List V := [.int v, front r par v]
abbrev PrsAt (H : Hp) (r : Int) (par : Int → Int) : List Addr → List Int → Prop := Paired fun q v => H q = some (.tup (vPr r par v))
theorem PrsAt.same {H H' : Hp} {r : Int} {par : Int → Int} {qs : List Addr} {vs : List Int} (e : Same H H') (h : PrsAt H r par qs vs) : PrsAt H' r par qs vs := Paired.imp' (fun q v x => e q _ x) h
theorem PrsAt.get {H : Hp} {r : Int} {par : Int → Int} : ∀ {ps : List Addr} {vs : List Int} {i : Nat} {x : V}, PrsAt H r par ps vs → (ps.map V.ref)[i]? = some x → ∃ p v, x = .ref p ∧ ps[i]? = some p ∧ vs[i]? = some v ∧ H p = some (.tup (vPr r par v))
  | _, _, i, x, .nil, e => by simp at e
  | _, _, 0, x, .cons (a := p) (b := r) h hs, e => ⟨p, r, by simpa using e.symm, by simp, by simp, h⟩
  | a :: l1, _, i + 1, x, .cons h hs, e => by
    have e' : (List.map V.ref l1)[i]? = some x := by simpa using e
    obtain ⟨p, r, h1, h2, h3, h4⟩ := PrsAt.get hs e'
    exact ⟨p, r, h1, by simpa using h2, by simpa using h3, h4⟩
theorem PrsAt.snoc {H : Hp} {r : Int} {par : Int → Int} {q : Addr} {v : Int} (e : H q = some (.tup (vPr r par v))) : ∀ {qs : List Addr} {vs : List Int}, PrsAt H r par qs vs → PrsAt H r par (qs ++ [q]) (vs ++ [v])
  | _, _, .nil => .cons e .nil
  | _, _, .cons x xs => .cons x (PrsAt.snoc e xs)
theorem prs_app {α β : Type} {R : α → β → Prop} {k₁ : List α} {k₂ : List β} (h : Paired R k₁ k₂) : ∀ {l₁ : List α} {l₂ : List β}, Paired R l₁ l₂ → Paired R (l₁ ++ k₁) (l₂ ++ k₂)
  | _, _, .nil => h
  | _, _, .cons x xs => .cons x (prs_app h xs)
end Pb
set_option Elab.async false
set_option linter.all false
set_option maxRecDepth 100000
set_option exponentiation.threshold 5000
namespace Pb
open L2 PySem
section
variable {m : Int} {rs : List Road} {r : Int} {par : Int → Int} {dep : Int → Nat}
def foU (op : Int → Int → Int) (m : Int) (rs : List Road) (r : Int) (par : Int → Int) (held : Int → Int) (con : Int → Int → Int) : Nat → Int → Int
  | 0, v => held v
  | n + 1, v => ((kidsOf m rs (front r par v) v).map fun c => con c (foU op m rs r par held con n c)).foldl op (held v)
def fo (op : Int → Int → Int) (m : Int) (rs : List Road) (r : Int) (par : Int → Int) (dep : Int → Nat) (held : Int → Int) (con : Int → Int → Int) (v : Int) : Int := foU op m rs r par held con (m.toNat - 1 - dep v) v
variable {op : Int → Int → Int} {held : Int → Int} {con : Int → Int → Int}
theorem fo_step (g : Good m rs) (R : Rooted m rs r par dep) {v : Int} (h0 : 0 ≤ v) (h1 : v < m) : fo op m rs r par dep held con v = ((kidsOf m rs (front r par v) v).map fun c => con c (fo op m rs r par dep held con c)).foldl op (held v) := by
  have du : ∀ u ∈ kidsOf m rs (front r par v) v, dep u = dep v + 1 ∧ dep u + 1 ≤ m.toNat := fun u hu => by
    obtain ⟨w1, w2, w3⟩ := (mem_kids g R h0 h1).mp hu
    have := R.pos w1.1 w1.2 w2
    rw [w3] at this
    exact ⟨this, dep_lt R w1.1 w1.2⟩
  unfold fo
  cases e : m.toNat - 1 - dep v with
  | zero =>
    have : kidsOf m rs (front r par v) v = [] := List.eq_nil_iff_forall_not_mem.mpr fun u hu => by
      have := du u hu
      omega
    rw [this]
    rfl
  | succ n =>
    show List.foldl op (held v) _ = _
    rw [List.map_congr_left fun u hu => show con u (foU op m rs r par held con n u) = con u (foU op m rs r par held con (m.toNat - 1 - dep u) u) by rw [show m.toNat - 1 - dep u = n by have := du u hu; omega]]
def Comm (op : Int → Int → Int) : Prop := ∀ a b c, op (op a b) c = op (op a c) b
theorem perm_fold (hop : Comm op) {l l' : List Int} (h : l.Perm l') : ∀ a, l.foldl op a = l'.foldl op a := by
  induction h with
  | nil => exact fun _ => rfl
  | cons x _ ih => exact fun a => ih _
  | swap x y l => intro a; show List.foldl op (op (op a y) x) l = List.foldl op (op (op a x) y) l; rw [hop]
  | trans _ _ h1 h2 => exact fun a => (h1 a).trans (h2 a)
theorem fold_in (hop : Comm op) : ∀ (l : List Int) (a x : Int), l.foldl op (op a x) = op (l.foldl op a) x
  | [], a, x => rfl
  | y :: l, a, x => by show l.foldl op (op (op a x) y) = op (l.foldl op (op a y)) x; rw [hop, fold_in hop l]
def fstep (op : Int → Int → Int) (par : Int → Int) (con : Int → Int → Int) (cs : List Int) (v : Int) : List Int := cs.set (par v).toNat (op (cs.getD (par v).toNat 0) (con v (cs.getD v.toNat 0)))
structure Sofo (op : Int → Int → Int) (m : Int) (rs : List Road) (r : Int) (par : Int → Int) (dep : Int → Nat) (held : Int → Int) (con : Int → Int → Int) (t cs : List Int) : Prop where
  len : (cs.length : Int) = m
  val : ∀ v, 0 ≤ v → v < m → cs.getD v.toNat 0 = ((t.filter fun c => decide (par c = v)).map fun c => con c (fo op m rs r par dep held con c)).foldl op (held v)
theorem Sofo.nil {hs : List Int} (h : (hs.length : Int) = m) (e : ∀ v, 0 ≤ v → v < m → hs.getD v.toNat 0 = held v) : Sofo op m rs r par dep held con [] hs := ⟨h, fun v h0 h1 => e v h0 h1⟩
theorem Sofo.full (hop : Comm op) (g : Good m rs) (R : Rooted m rs r par dep) {t cs : List Int} (s : Sofo op m rs r par dep held con t cs) (nd : t.Nodup) (tr : ∀ x ∈ t, (0 ≤ x ∧ x < m) ∧ x ≠ r) {v : Int} (h0 : 0 ≤ v) (h1 : v < m) (hk : ∀ k, 0 ≤ k → k < m → k ≠ r → par k = v → k ∈ t) : cs.getD v.toNat 0 = fo op m rs r par dep held con v := by
  rw [s.val v h0 h1, fo_step g R h0 h1, perm_fold hop ((kids_of_row g R nd tr h0 h1 hk).map _)]
theorem Sofo.step (hop : Comm op) (g : Good m rs) (R : Rooted m rs r par dep) {t cs : List Int} (s : Sofo op m rs r par dep held con t cs) {v : Int} (h0 : 0 ≤ v) (h1 : v < m) (hr : v ≠ r) (e : cs.getD v.toNat 0 = fo op m rs r par dep held con v) : Sofo op m rs r par dep held con (v :: t) (fstep op par con cs v) where
  len := by unfold fstep; rw [List.length_set]; exact s.len
  val := fun u u0 u1 => by
    have pu := (R.up v h0 h1 hr).1
    have sl := s.len
    have vu := s.val u u0 u1
    unfold fstep
    rw [e]
    by_cases c : par v = u
    · have hl : u.toNat < cs.length := by omega
      rw [List.filter_cons_of_pos (by simpa using c), List.map_cons, List.foldl_cons, fold_in hop, ← vu, c]
      simp [List.getD, hl]
    · rw [List.filter_cons_of_neg (by simpa using c), ← vu]
      have : (par v).toNat ≠ u.toNat := by omega
      simp [List.getD, List.getElem?_set_ne this]
theorem Order.cut (R : Rooted m rs r par dep) {t : List Int} (O : Order m r par t) {i : Nat} {v : Int} (hv : t.reverse[i]? = some v) :
    ((0 ≤ v ∧ v < m) ∧ v ≠ r) ∧ t.drop (t.length - (i + 1)) = v :: t.drop (t.length - i) ∧ (t.drop (t.length - i)).Nodup ∧ (∀ x ∈ t.drop (t.length - i), (0 ≤ x ∧ x < m) ∧ x ≠ r) ∧ ∀ k, 0 ≤ k → k < m → k ≠ r → par k = v → k ∈ t.drop (t.length - i) := by
  have hi : i < t.length := by
    have := (List.getElem?_eq_some_iff.mp hv).1
    rwa [List.length_reverse] at this
  rw [List.getElem?_reverse hi] at hv
  generalize hj : t.length - 1 - i = j at hv
  have ej : t.length - i = j + 1 := by omega
  have ej' : t.length - (i + 1) = j := by omega
  rw [ej, ej']
  have hjl : j < t.length := by omega
  have vm : v ∈ t := List.mem_of_getElem? hv
  have vp := O.places v vm
  have ed : t.drop j = v :: t.drop (j + 1) := by
    rw [List.drop_eq_getElem_cons hjl]
    rw [List.getElem?_eq_getElem hjl] at hv
    cases hv
    rfl
  have es : t = t.take j ++ v :: t.drop (j + 1) := by rw [← ed, List.take_append_drop]
  have ndt := (List.nodup_cons.mp O.nd).2
  have nd2 := ndt
  rw [es] at nd2
  have av : v ∉ t.take j := fun z => (List.nodup_append.mp nd2).2.2 v z v List.mem_cons_self rfl
  refine ⟨vp, ed, ndt.sublist (List.drop_sublist _ _), fun x hx => O.places x (List.mem_of_mem_drop hx), fun k k0 k1 kr pk => ?_⟩
  rcases O.all k k0 k1 with z | z
  · exact absurd z kr
  · rw [es] at z
    rcases List.mem_append.mp z with z | z
    · have af := O.af
      rw [es] at af
      rcases af.up k z with w | w
      · rw [pk] at w
        exact absurd (List.mem_singleton.mp w) vp.2
      · rw [pk] at w
        exact absurd w av
    · rcases List.mem_cons.mp z with z | z
      · subst z
        exact absurd pk (R.ne k0 k1 kr)
      · exact z
theorem Order.turnF (hop : Comm op) (g : Good m rs) (R : Rooted m rs r par dep) {t cs : List Int} (O : Order m r par t) {i : Nat} {v : Int} (s : Sofo op m rs r par dep held con (t.drop (t.length - i)) cs) (hv : t.reverse[i]? = some v) :
    ((0 ≤ v ∧ v < m) ∧ v ≠ r) ∧ cs.getD v.toNat 0 = fo op m rs r par dep held con v ∧ Sofo op m rs r par dep held con (t.drop (t.length - (i + 1))) (fstep op par con cs v) := by
  obtain ⟨vp, ed, nd, tr, hk⟩ := O.cut R hv
  have e := s.full hop g R nd tr vp.1.1 vp.1.2 hk
  exact ⟨vp, e, by rw [ed]; exact s.step hop g R vp.1.1 vp.1.2 vp.2 e⟩
def foL (op : Int → Int → Int) (m : Int) (rs : List Road) (r : Int) (par : Int → Int) (dep : Int → Nat) (held : Int → Int) (con : Int → Int → Int) : List Int := (below m.toNat).map (fo op m rs r par dep held con)
theorem foL_get {v : Int} (h0 : 0 ≤ v) (h1 : v < m) : (foL op m rs r par dep held con).getD v.toNat 0 = fo op m rs r par dep held con v := by
  unfold foL
  rw [List.getD, List.getElem?_map, below_get (by omega), Int.toNat_of_nonneg h0]
  rfl
theorem foL_len : (foL op m rs r par dep held con).length = m.toNat := by unfold foL; rw [List.length_map, below_length]
theorem Order.doneF (hop : Comm op) (g : Good m rs) (R : Rooted m rs r par dep) {t cs : List Int} (O : Order m r par t) (s : Sofo op m rs r par dep held con t cs) : cs = foL op m rs r par dep held con := by
  have sl := s.len
  refine List.ext_getElem? fun i => ?_
  by_cases h : i < m.toNat
  · have hc : i < cs.length := by omega
    have e := s.full hop g R (List.nodup_cons.mp O.nd).2 O.places (v := (i : Int)) (by omega) (by omega) fun k k0 k1 kr pk => (O.all k k0 k1).resolve_left kr
    unfold foL
    rw [List.getElem?_map, below_get h]
    rw [Int.toNat_natCast, List.getD, List.getElem?_eq_getElem hc] at e
    rw [List.getElem?_eq_getElem hc]
    exact congrArg some e
  · rw [List.getElem?_eq_none (by omega), List.getElem?_eq_none (by rw [foL_len]; omega)]
def mx (i j : Int) : Int := if j > i then j else i
theorem mx_comm : Comm mx := fun a b c => by
  have h : ∀ x y, mx x y = max x y := fun x y => by unfold mx; omega
  rw [h, h, h, h]
  omega
def bor (rs : List Road) (par : Int → Int) (v x : Int) : Int := x * (tollOf rs v (par v)).getD 1
abbrev wgt (m : Int) (rs : List Road) (r : Int) (par : Int → Int) (dep : Int → Nat) : Int → Int := fo mx m rs r par dep (fun _ => 1) (bor rs par)
abbrev wgtL (m : Int) (rs : List Road) (r : Int) (par : Int → Int) (dep : Int → Nat) : List Int := foL mx m rs r par dep (fun _ => 1) (bor rs par)
theorem mx_fold {B : Int} : ∀ (l : List Int) (a : Int), a ≤ B → (∀ x ∈ l, x ≤ B) → a ≤ l.foldl mx a ∧ l.foldl mx a ≤ B ∧ ∀ x ∈ l, x ≤ l.foldl mx a
  | [], a, h, _ => ⟨Int.le_refl _, h, fun x hx => by cases hx⟩
  | y :: l, a, h, hl => by
    have hy := hl y List.mem_cons_self
    have h1 : a ≤ mx a y ∧ y ≤ mx a y ∧ mx a y ≤ B := by unfold mx; split <;> omega
    obtain ⟨i1, i2, i3⟩ := mx_fold l (mx a y) h1.2.2 fun x hx => hl x (List.mem_cons_of_mem _ hx)
    refine ⟨Int.le_trans h1.1 i1, i2, fun x hx => ?_⟩
    rcases List.mem_cons.mp hx with e | e
    · rw [e]; exact Int.le_trans h1.2.1 i1
    · exact i3 x e
theorem wgtU_bound (g : Good m rs) (R : Rooted m rs r par dep) : ∀ (n : Nat) (v : Int), 0 ≤ v → v < m → 1 ≤ foU mx m rs r par (fun _ => 1) (bor rs par) n v ∧ foU mx m rs r par (fun _ => 1) (bor rs par) n v ≤ 1000000 ^ n
  | 0, v, _, _ => ⟨Int.le_refl _, Int.le_refl _⟩
  | n + 1, v, h0, h1 => by
    have hp : (1 : Int) ≤ 1000000 ^ n := Int.pow_pos (by decide)
    have he : (1000000 : Int) ^ (n + 1) = 1000000 ^ n * 1000000 := Int.pow_succ ..
    show 1 ≤ List.foldl mx 1 _ ∧ List.foldl mx 1 _ ≤ _
    obtain ⟨i1, i2, _⟩ := mx_fold (B := 1000000 ^ (n + 1)) ((kidsOf m rs (front r par v) v).map fun c => bor rs par c (foU mx m rs r par (fun _ => 1) (bor rs par) n c)) 1 (by omega) fun x hx => by
      obtain ⟨c, hc, rfl⟩ := List.mem_map.mp hx
      obtain ⟨w1, w2, w3⟩ := (mem_kids g R h0 h1).mp hc
      obtain ⟨k, hk, k0, k1⟩ := toll_up g R w1.1 w1.2 w2
      obtain ⟨b0, b1⟩ := wgtU_bound g R n c w1.1 w1.2
      unfold bor
      rw [hk, he]
      show _ * k ≤ _
      exact Int.mul_le_mul b1 k1 (by omega) (by omega)
    exact ⟨i1, i2⟩
theorem wgt_bound (g : Good m rs) (R : Rooted m rs r par dep) {v : Int} (h0 : 0 ≤ v) (h1 : v < m) : 1 ≤ wgt m rs r par dep v ∧ wgt m rs r par dep v ≤ 2 ^ 480 := by
  obtain ⟨a, b⟩ := wgtU_bound g R (m.toNat - 1 - dep v) v h0 h1
  refine ⟨a, Int.le_trans b ?_⟩
  have m24 := g.m24
  have : (1000000 : Int) ^ (m.toNat - 1 - dep v) ≤ 1000000 ^ 24 := by
    have hn : m.toNat - 1 - dep v ≤ 24 := by omega
    have h := Int.ofNat_le.mpr (Nat.pow_le_pow_right (show 0 < 1000000 by decide) hn)
    rw [Int.natCast_pow, Int.natCast_pow] at h
    exact h
  exact Int.le_trans this (by decide +kernel)
theorem wgtL_bits (g : Good m rs) (R : Rooted m rs r par dep) : ∀ x ∈ wgtL m rs r par dep, x.natAbs < 2 ^ 4000 := fun x hx => by
  obtain ⟨v, hv, rfl⟩ := List.mem_map.mp hx
  obtain ⟨v0, v1⟩ := mem_below.mp hv
  obtain ⟨h1, h2⟩ := wgt_bound g R v0 (show v < m by omega)
  have h3 : ((fo mx m rs r par dep (fun _ => 1) (bor rs par) v).natAbs : Int) ≤ 2 ^ 480 := by rw [Int.natAbs_of_nonneg (Int.le_trans (by decide) h1)]; exact h2
  have h4 : (fo mx m rs r par dep (fun _ => 1) (bor rs par) v).natAbs ≤ 2 ^ 480 := by exact_mod_cast h3
  exact Nat.lt_of_le_of_lt h4 (Nat.pow_lt_pow_right (by decide) (by decide))
theorem want_bits2 {w : Int} (h1 : -(10 ^ 60) ≤ w) (h2 : w ≤ 10 ^ 60) : (w - 1).natAbs < 2 ^ 4000 := by
  have h3 : (w - 1).natAbs ≤ 10 ^ 60 + 1 := by omega
  exact Nat.lt_of_le_of_lt h3 (Nat.lt_of_lt_of_le (show 10 ^ 60 + 1 < 2 ^ 200 by decide +kernel) (Nat.pow_le_pow_right (by decide) (by decide)))
theorem want_bits {w : Int} (h1 : 1 ≤ w) (h2 : w ≤ 10 ^ 60) : (w - 1).natAbs < 2 ^ 4000 := by
  have h3 : ((w - 1).natAbs : Int) < 2 ^ 200 := by
    rw [Int.natAbs_of_nonneg (by omega)]
    exact Int.lt_of_lt_of_le (show w - 1 < 10 ^ 60 by omega) (by decide +kernel)
  have h4 : (w - 1).natAbs < 2 ^ 200 := by exact_mod_cast h3
  exact Nat.lt_of_lt_of_le h4 (Nat.pow_le_pow_right (by decide) (by decide))
def slk (rs : List Road) (par : Int → Int) (xs : List Int) (v : Int) : Int := xs.getD v.toNat 0 * ((tollOf rs v (par v)).getD 1 - 1)
def bnd (m : Int) (rs : List Road) (r : Int) (par : Int → Int) (xs : List Int) (w : Int) : Int := xs.getD r.toNat 0 * (w - 1) + (((below m.toNat).filter fun v => decide (v ≠ r)).map (slk rs par xs)).sum
theorem Order.sums {t : List Int} (O : Order m r par t) (f : Int → Int) : (t.map f).sum = (((below m.toNat).filter fun v => decide (v ≠ r)).map f).sum := by
  refine perm_sum ((perm_of_nodup (List.nodup_cons.mp O.nd).2 ((nodup_below _).filter _) fun x => ?_).map f)
  rw [List.mem_filter, mem_below, decide_eq_true_eq]
  refine ⟨fun h => ⟨⟨(O.rng x h).1, ?_⟩, O.ne h⟩, fun h => (O.all x h.1.1 ?_).resolve_left h.2⟩
  · have := (O.rng x h).2
    omega
  · have := h.1.2
    omega
theorem Order.perm_len {t : List Int} (O : Order m r par t) (r0 : 0 ≤ r) (r1 : r < m) : t.length + 1 = m.toNat := by
  have h := (perm_of_nodup O.nd (nodup_below m.toNat) fun x => by
    rw [List.mem_cons, mem_below]
    refine ⟨fun h => ?_, fun h => O.all x h.1 (by have := h.2; omega)⟩
    rcases h with h | h
    · rw [h]; exact ⟨r0, by omega⟩
    · have := O.rng x h
      exact ⟨this.1, by omega⟩).length_eq
  rw [below_length, List.length_cons] at h
  exact h
theorem take_sum {f : Int → Int} {l : List Int} {i : Nat} {v : Int} (h : l[i]? = some v) : ((l.take (i + 1)).map f).sum = ((l.take i).map f).sum + f v := by
  rw [List.take_succ, h, Option.toList_some, List.map_append, List.sum_append]
  simp
structure Slk (m : Int) (rs : List Road) (par : Int → Int) (t cs : List Int) : Prop where
  len : (cs.length : Int) = m
  pos : ∀ v, 0 ≤ v → v < m → 1 ≤ cs.getD v.toNat 0
  std : ∀ c ∈ t, cs.getD c.toNat 0 * (tollOf rs c (par c)).getD 1 ≤ cs.getD (par c).toNat 0
theorem Slk.more {t cs : List Int} (s : Slk m rs par t cs) (tp : ∀ c ∈ t, 0 ≤ c ∧ c < m ∧ 0 ≤ par c ∧ par c < m) {v x : Int} (h0 : 0 ≤ v) (h1 : v < m) (hx : cs.getD v.toNat 0 ≤ x) (nv : v ∉ t) : Slk m rs par t (cs.set v.toNat x) where
  len := by rw [List.length_set]; exact s.len
  pos := fun u u0 u1 => by
    have sl := s.len
    have := s.pos u u0 u1
    have := s.pos v h0 h1
    rw [getD_set _ _ _ _ (by omega)]
    split <;> omega
  std := fun c hc => by
    have sl := s.len
    have h := s.std c hc
    obtain ⟨c0, c1, p0, p1⟩ := tp c hc
    rw [getD_set _ _ _ _ (by omega), getD_set _ _ _ _ (by omega), if_neg (fun z => nv (by rw [show v = c by omega]; exact hc))]
    by_cases z : v.toNat = (par c).toNat
    · rw [if_pos z]
      rw [← z] at h
      exact Int.le_trans h hx
    · rw [if_neg z]
      exact h
theorem getD_in {cs : List Int} {i : Nat} (h : i < cs.length) : cs.getD i 0 ∈ cs := by
  rw [List.getD, List.getElem?_eq_getElem h]
  exact List.getElem_mem h
theorem slack_le {B x a k : Int} (hB : 1 ≤ B) (x1 : 1 ≤ x) (hx : x ≤ B) (a0 : 0 ≤ a) (a1 : a < 1000000000) (k0 : 2 ≤ k) (k1 : k ≤ 1000000) : x + a ≤ B * 2 ^ 50 ∧ (x + a) * k ≤ B * 2 ^ 50 := by
  have h : (x + a) * k ≤ (B + 1000000000) * 1000000 := Int.mul_le_mul (by omega) k1 (by omega) (by omega)
  have h2 : (B + 1000000000) * 1000000 ≤ B * 1125899906842624 := by omega
  have e : (2 : Int) ^ 50 = 1125899906842624 := by decide
  rw [e]
  exact ⟨by omega, Int.le_trans h h2⟩
theorem slack_set {B : Int} {cs : List Int} (h : ∀ x ∈ cs, 1 ≤ x ∧ x ≤ B) {i : Nat} {y : Int} (y1 : 1 ≤ y) (y2 : y ≤ B) : ∀ x ∈ cs.set i y, 1 ≤ x ∧ x ≤ B := fun x hx => by
  rcases List.mem_or_eq_of_mem_set hx with z | z
  · exact h x z
  · rw [z]; exact ⟨y1, y2⟩
theorem slack_up {B C : Int} {cs : List Int} (h : ∀ x ∈ cs, 1 ≤ x ∧ x ≤ B) (hB : B ≤ C) : ∀ x ∈ cs, 1 ≤ x ∧ x ≤ C := fun x hx => ⟨(h x hx).1, Int.le_trans (h x hx).2 hB⟩
theorem slack_fin {n : Nat} (hn : n ≤ 30) {cs : List Int} (h : ∀ x ∈ cs, 1 ≤ x ∧ x ≤ (2 : Int) ^ (50 * n)) : ∀ x ∈ cs, x.natAbs < 2 ^ 4000 := fun x hx => by
  obtain ⟨h1, h2⟩ := h x hx
  have h3 : x.natAbs ≤ 2 ^ (50 * n) := by
    have : ((x.natAbs : Nat) : Int) ≤ ((2 ^ (50 * n) : Nat) : Int) := by rw [Int.natAbs_of_nonneg (by omega)]; exact_mod_cast h2
    exact_mod_cast this
  exact Nat.lt_of_le_of_lt h3 (Nat.pow_lt_pow_right (by decide) (by omega))
theorem Slk.add {t cs : List Int} (s : Slk m rs par t cs) {v : Int} (h : cs.getD v.toNat 0 * (tollOf rs v (par v)).getD 1 ≤ cs.getD (par v).toNat 0) : Slk m rs par (v :: t) cs := ⟨s.len, s.pos, fun c hc => by
  rcases List.mem_cons.mp hc with e | e
  · rw [e]; exact h
  · exact s.std c e⟩
theorem Order.fresh (R : Rooted m rs r par dep) {t : List Int} (O : Order m r par t) {i : Nat} {v : Int} (hv : t.reverse[i]? = some v) : v ∉ t.drop (t.length - i) ∧ par v ∉ t.drop (t.length - i) := by
  have hi : i < t.length := by
    have := (List.getElem?_eq_some_iff.mp hv).1
    rwa [List.length_reverse] at this
  obtain ⟨vp, ed, nd, tr, hk⟩ := O.cut R hv
  have ndt := (List.nodup_cons.mp O.nd).2
  have nd2 : (v :: t.drop (t.length - i)).Nodup := by rw [← ed]; exact ndt.sublist (List.drop_sublist _ _)
  refine ⟨(List.nodup_cons.mp nd2).1, fun z => ?_⟩
  have es : t = t.take (t.length - i) ++ t.drop (t.length - i) := (List.take_append_drop _ _).symm
  have vm : v ∈ t.take (t.length - i) := by
    have h1 : t.length - i = (t.length - (i + 1)) + 1 := by omega
    rw [h1, List.take_succ]
    rw [List.getElem?_reverse hi, show t.length - 1 - i = t.length - (i + 1) by omega] at hv
    rw [hv]
    exact List.mem_append_right _ (List.mem_singleton.mpr rfl)
  have af := O.af
  rw [es] at af
  rcases af.up v vm with w | w
  · exact (tr _ z).2 (List.mem_singleton.mp w)
  · rw [es] at ndt
    exact (List.nodup_append.mp ndt).2.2 _ w _ z rfl
theorem Slk.turn (g : Good m rs) (R : Rooted m rs r par dep) {t cs : List Int} (O : Order m r par t) {i : Nat} {v : Int} (hv : t.reverse[i]? = some v) (s : Slk m rs par (t.drop (t.length - i)) cs) {a y : Int} (a0 : 0 ≤ a) (hy : y = mx ((cs.set v.toNat (cs.getD v.toNat 0 + a)).getD (par v).toNat 0) ((cs.getD v.toNat 0 + a) * (tollOf rs v (par v)).getD 1)) :
    Slk m rs par (t.drop (t.length - (i + 1))) ((cs.set v.toNat (cs.getD v.toNat 0 + a)).set (par v).toNat y) := by
  obtain ⟨vp, ed, nd, tr, hk⟩ := O.cut R hv
  obtain ⟨f1, f2⟩ := O.fresh R hv
  have up := R.up v vp.1.1 vp.1.2 vp.2
  have tp : ∀ c ∈ t.drop (t.length - i), 0 ≤ c ∧ c < m ∧ 0 ≤ par c ∧ par c < m := fun c hc => by
    obtain ⟨c1, c2⟩ := tr c hc
    have := R.up c c1.1 c1.2 c2
    exact ⟨c1.1, c1.2, this.1.1, this.1.2⟩
  have s1 := s.more tp vp.1.1 vp.1.2 (x := cs.getD v.toNat 0 + a) (by omega) f1
  have m1 : ∀ p q : Int, p ≤ mx p q ∧ q ≤ mx p q := fun p q => by unfold mx; split <;> omega
  have s2 := s1.more tp up.1.1 up.1.2 (x := y) (by rw [hy]; exact (m1 _ _).1) f2
  rw [ed]
  refine s2.add ?_
  have sl := s.len
  have ne : (par v).toNat ≠ v.toNat := by
    have := R.ne vp.1.1 vp.1.2 vp.2
    omega
  have e1 : ((cs.set v.toNat (cs.getD v.toNat 0 + a)).set (par v).toNat y).getD v.toNat 0 = cs.getD v.toNat 0 + a := by
    rw [getD_set _ _ _ _ (by rw [List.length_set]; omega), if_neg ne, getD_set _ _ _ _ (by omega), if_pos rfl]
  have e2 : ((cs.set v.toNat (cs.getD v.toNat 0 + a)).set (par v).toNat y).getD (par v).toNat 0 = y := by
    rw [getD_set _ _ _ _ (by rw [List.length_set]; omega), if_pos rfl]
  rw [e1, e2, hy]
  exact (m1 _ _).2
end
end Pb
set_option Elab.async false
set_option linter.all false
set_option maxRecDepth 100000
namespace L2
open PySem PySem.Spec PyProof.Rows
section
variable {X : Cx}
end
end L2
namespace Pb
end Pb
set_option Elab.async false
set_option linter.all false
set_option maxRecDepth 100000
namespace L2
open PySem PySem.Spec PyProof.Rows
section
variable {X : Cx}
end
end L2
set_option Elab.async false
set_option linter.all false
set_option maxRecDepth 100000
namespace L2
open PySem PySem.Spec PyProof.Rows
section
variable {P : Program} {w : World} {A : Around} {R : Result → Shared → Prop} {I S : Addr} {fp wr : List Addr} {n : Nat} {Pv : Nat → Value → Prop} {St : Nat → Heap → Prop} {bt : Nat → Nat → Bool} {kw : List (Str × Value)}
end
section
variable {X : Cx} {x : Str} {p pos kpos : Pos} {e de : Expr} {t tk : TA}
def tMinD (K : PySem.W.Frag) (t tk : TA) : TE := fun σ H Q => t σ H fun vs H1 => tk σ H1 fun zs H2 => ∃ (q : Addr) (ns : List Int) (d : V), vs = [.ref q] ∧ zs = [d] ∧ SqL K H2 q (ns.map V.int) ∧ ns ≠ [] ∧ ∀ y, y ∈ ns → (∀ x ∈ ns, y ≤ x) → Q (.int y) H2
def tNotT (t : TE) : TE := fun σ H Q => t σ H fun x H1 => ∃ b, x = .bl b ∧ Q (.bl (b != true)) H1
end
end L2
set_option Elab.async false
set_option linter.all false
set_option maxRecDepth 100000
namespace Pb
open L2 PySem
section
variable {m : Int} {rs : List Road} {r : Int} {par : Int → Int} {dep : Int → Nat}
def tup (rs : List Road) (par : Int → Int) (v : Int) : Int := (tollOf rs v (par v)).getD 1
theorem tup_up (g : Good m rs) (R : Rooted m rs r par dep) {v : Int} (h0 : 0 ≤ v) (h1 : v < m) (hr : v ≠ r) : 2 ≤ tup rs par v ∧ tup rs par v ≤ 1000000 := by
  obtain ⟨k, hk, k0, k1⟩ := toll_up g R h0 h1 hr
  unfold tup
  rw [hk]
  exact ⟨k0, k1⟩
variable {ch : Int → Option Int} {w : Int} {cn : Int → Int}
theorem flat_sum (f : Int → Int) (h : Int → List Int) : ∀ l : List Int, ((l.flatMap h).map f).sum = (l.map fun c => ((h c).map f).sum).sum
  | [] => rfl
  | a :: l => by rw [List.flatMap_cons, List.map_append, List.sum_append, flat_sum f h l, List.map_cons, List.sum_cons]
theorem sum_sub' (f h : Int → Int) : ∀ l : List Int, (l.map fun c => f c - h c).sum = (l.map f).sum - (l.map h).sum
  | [] => rfl
  | a :: l => by rw [List.map_cons, List.map_cons, List.map_cons, List.sum_cons, List.sum_cons, List.sum_cons, sum_sub' f h l]; omega
theorem wgt_slk (g : Good m rs) (R : Rooted m rs r par dep) {t : List Int} (O : Order m r par t) : Slk m rs par t (wgtL m rs r par dep) where
  len := by
    have := g.m1
    rw [foL_len]
    omega
  pos := fun v v0 v1 => by rw [foL_get v0 v1]; exact (wgt_bound g R v0 v1).1
  std := fun c hc => by
    have cr := O.rng c hc
    have cn := O.ne hc
    have u := R.up c cr.1 cr.2 cn
    rw [foL_get cr.1 cr.2, foL_get u.1.1 u.1.2]
    have hk : c ∈ kidsOf m rs (front r par (par c)) (par c) := (mem_kids g R u.1.1 u.1.2).mpr ⟨cr, cn, rfl⟩
    have e : wgt m rs r par dep (par c) = ((kidsOf m rs (front r par (par c)) (par c)).map fun c => bor rs par c (wgt m rs r par dep c)).foldl mx 1 := fo_step g R u.1.1 u.1.2
    have hB : ∀ x ∈ (kidsOf m rs (front r par (par c)) (par c)).map fun c => bor rs par c (wgt m rs r par dep c), x ≤ 2 ^ 480 * 1000000 := fun x hx => by
      obtain ⟨d, hd, rfl⟩ := List.mem_map.mp hx
      obtain ⟨d1, d2, d3⟩ := (mem_kids g R u.1.1 u.1.2).mp hd
      have tk := tup_up g R d1.1 d1.2 d2
      have wb := wgt_bound g R d1.1 d1.2
      show _ * tup rs par d ≤ _
      exact Int.mul_le_mul wb.2 tk.2 (by omega) (by decide +kernel)
    obtain ⟨_, _, i3⟩ := mx_fold (B := 2 ^ 480 * 1000000) ((kidsOf m rs (front r par (par c)) (par c)).map fun c => bor rs par c (wgt m rs r par dep c)) 1 (by decide +kernel) hB
    have := i3 _ (List.mem_map.mpr ⟨c, hk, rfl⟩)
    rw [← e] at this
    exact this
end
end Pb
set_option Elab.async false
set_option linter.all false
set_option maxRecDepth 100000
namespace L2
open PySem PySem.Spec PyProof.Rows PySem.W
section
variable {n : Nat}
variable (hn : 0 < n)
include hn
end
section
variable {prog : Program} {w : World} {A : Around} {E : Value → Shared → Prop} {s : Shared}
end
end L2
set_option Elab.async false
set_option linter.all false
set_option maxRecDepth 100000
namespace L2
open PySem PySem.Spec PyProof.Rows PySem.W Pb
section
variable {prog : Program} {w : World} {A : Around} {E : Value → Shared → Prop} {s : Shared} {it d : Addr} {i ep : Nat} {es : Array DictEntry}
end
section
variable {prog : Program} {w : World} {A : Around} {E : Value → Shared → Prop} {s : Shared} {fin : Bool} {C : Bool → Shared → Prop}
end
section
variable {prog : Program} {w : World} {A : Around} {E : Value → Shared → Prop} {s : Shared}
end
section
variable {X : Cx}
end
end L2
set_option Elab.async false
set_option linter.all false
set_option maxRecDepth 100000
namespace L2
theorem mem_putK {κ : Type} [DecidableEq κ] {kvs : List (κ × V)} {k : κ} {v : V} {p : κ × V} (h : p ∈ putK kvs k v) : p.1 = k ∨ ∃ q ∈ kvs, p.1 = q.1 := by
  unfold putK at h
  split at h
  · obtain ⟨q, hq, e⟩ := List.mem_map.mp h
    refine .inr ⟨q, hq, ?_⟩
    rw [← e]
    split <;> rfl
  · rcases List.mem_append.mp h with h | h
    · exact .inr ⟨p, h, rfl⟩
    · rw [List.mem_singleton.mp h]; exact .inl rfl
end L2
namespace Pb
open L2 PySem
section
variable {m : Int} {rs : List Road} {r : Int} {par : Int → Int} {dep : Int → Nat}
end
section
end
end Pb
set_option Elab.async false
set_option linter.all false
set_option maxRecDepth 100000
namespace L2
open PySem PySem.Spec PyProof.Rows
def tDispT (tk tv : TE) : TE := fun σ H Q => ∀ p, H p = none → tPairs [(tk, tv)] σ (upd H p (.dT [])) fun ps H2 => H2 p = some (.dT []) ∧ ∃ (k : List Key) (b : Addr) (y : V), ps = [(.ref b, y)] ∧ H2 b = some (.tup (k.map kV)) ∧ Q (.ref p) (upd H2 p (.dT [(k, y)]))
end L2
set_option Elab.async false
set_option linter.all false
set_option maxRecDepth 100000
namespace Pb
open L2 PySem
end Pb
namespace Pb
open L2 PySem
section
variable {m : Int} {rs : List Road} {xs : List Int}
variable {r : Int} {par : Int → Int} {dep : Int → Nat}
end
end Pb
set_option Elab.async false
set_option linter.all false
set_option maxRecDepth 100000
namespace L2
open PySem PySem.Spec PyProof.Rows Pb
section
variable {X : Cx}
end
end L2
set_option Elab.async false
set_option linter.all false
set_option maxRecDepth 100000
namespace L2
open PySem PySem.Spec PyProof.Rows
theorem log_bits {j : Int} {n : Nat} (h0 : j ≠ 0) (h : j.natAbs < 2 ^ n) (hn : n ≤ 9000) : j.natAbs.log2 < 9000 := Nat.lt_of_lt_of_le ((Nat.log2_lt (by omega)).mpr h) hn
end L2
namespace Pb
end Pb
namespace L2
open PySem Pb
end L2
namespace L2
open PySem
end L2
namespace L2
open PySem
end L2
namespace L2
open PySem PySem.Spec PyProof.Rows Pb
end L2
namespace L2
open PySem
end L2
set_option Elab.async false
set_option linter.all false
set_option maxRecDepth 100000
namespace Pb
open L2 PySem
section
variable {m : Int} {rs : List Road} {r : Int} {par : Int → Int} {dep : Int → Nat}
end
section
variable {m : Int} {rs : List Road} {xs : List Int}
end
end Pb
set_option Elab.async false
set_option linter.all false
set_option maxRecDepth 100000
namespace L2
open PySem PySem.Spec PyProof.Rows PySem.W Pb
section
variable {X : Cx} {pins : List (Addr × Obj)} {σ : St} {H : Hp} {s : Shared}
end
def Itd (d : Addr) (o : Obj) (kvs : List (List Key × V)) : It :=
  ⟨fun i H => H d = some (.frz o (.dT kvs)) ∧ i < kvs.length, fun i H x H' => H' = H ∧ ∃ (q : Addr) (k : List Key) (v : V), x = .ref q ∧ kvs[i]? = some (k, v) ∧ H q = some (.tup (k.map kV)), fun i H => H d = some (.frz o (.dT kvs)) ∧ i = kvs.length⟩
def tForD (tl : TE) (g : TG) (tb : TS) : TS := fun D σ H => tl σ H fun x H1 => ∃ (d : Addr) (kvs : List (List Key × V)), x = .ref d ∧ H1 d = some (.dT kvs) ∧
  ∀ o, ForGo (Itd d o kvs) { D with nx := fun σ' H' => H' d = some (.frz o (.dT kvs)) ∧ D.nx σ' (upd H' d (.dT kvs)) } g tb σ (upd H1 d (.frz o (.dT kvs)))
section
variable {X : Cx} {tg : Expr}
end
end L2
set_option Elab.async false
set_option linter.all false
set_option maxRecDepth 100000
namespace Pb
open L2 PySem
section
variable {α β : Type}
end
section
variable {m : Int} {rs : List Road} {r : Int} {par : Int → Int} {dep : Int → Nat}
end
end Pb
namespace Pb
open L2 PySem
section
variable {m : Int} {rs : List Road} {r : Int} {par : Int → Int} {dep : Int → Nat} {to : Bool}
end
end Pb
namespace Pb
open L2 PySem
end Pb
namespace Pb
open L2 PySem
end Pb
set_option Elab.async false
set_option linter.all false
set_option maxRecDepth 100000
namespace L2
open PySem PySem.Spec PyProof.Rows
section
variable {X : Cx} {cx : Str} {Nc : List Str} {own : Nat} {js : List Nat} {scope : Scope} {cl : List (Str × Addr)}
end
section
variable {X : Cx} {cx : Str} {Nc : List Str} {own : Nat} {js : List Nat} {scope : Scope} {cl : List (Str × Addr)}
end
end L2
set_option Elab.async false
set_option linter.all false
set_option maxRecDepth 100000
namespace L2
open PySem PySem.Spec PyProof.Rows PySem.W
section
variable {X : Cx}
end
def Its (z : Str) : It := ⟨fun i _ => i < z.cps.size, fun i H x H' => H' = H ∧ ∃ c, z.cps[i]? = some c ∧ x = .str ⟨#[c]⟩, fun i _ => z.cps.size ≤ i⟩
section
variable {X : Cx} {tg : Expr}
def iStr (tl : TE) : TI := fun σ H R => tl σ H fun x H1 => ∃ z, x = .str z ∧ z.cps.all (· < 128) = true ∧ R (Its z) H1
end
section
variable {P : Program} {w : World} {A : Around} {E : Value → Shared → Prop} {s : Shared}
end
section
variable {X : Cx} {e : Expr} {te : TE} {p2 apos cpos pos2 : Pos} {z : Str} {zp : Pos} {zk : Nat}
def tJoinR (K : PySem.W.Frag) (z : Str) (te : TE) : TE := fun σ H Q => te σ H fun x H1 => ∃ (a : Addr) (ys : List Str), x = .ref a ∧ SqL K H1 a (ys.map V.str) ∧ (ys.map (·.length)).sum + ys.length * z.length ≤ 16777216 ∧ Q (.str (Str.join z ys.reverse)) H1
end
end L2
set_option Elab.async false
set_option linter.all false
set_option maxRecDepth 100000
namespace Pb
open L2 PySem PySem.W NumText
theorem _root_.List.getElem?_map_some {α β : Type} {f : α → β} {l : List α} {i : Nat} {y : β} (h : (l.map f)[i]? = some y) : ∃ x, l[i]? = some x ∧ y = f x := by
  rw [List.getElem?_map] at h
  cases e : l[i]? with
  | none => rw [e] at h; cases h
  | some x => rw [e] at h; exact ⟨x, rfl, (Option.some.inj h).symm⟩
end Pb
set_option Elab.async false
set_option linter.all false
set_option maxRecDepth 100000
namespace L2
open PySem PySem.Spec PyProof.Rows PySem.W
end L2
namespace Pb
open L2 PySem PySem.W NumText
open PySem.StrLaws (At ChainG occ_tight partsBetween_eq partsFrom strSub_toList subAt_eq sub_whole)
section
variable {X : Str} {u c v : Nat}
end
end Pb
set_option Elab.async false
set_option linter.all false
set_option maxRecDepth 100000
namespace L2
open PySem PySem.Spec PyProof.Rows PySem.W
end L2
namespace Pb
open L2 PySem PySem.W NumText
end Pb
set_option Elab.async false
set_option linter.all false
set_option maxRecDepth 100000
namespace Pb
open L2 PySem
section
variable {m : Int} {rs : List Road} {r : Int} {par : Int → Int} {dep : Int → Nat} {held : Int → Int}
theorem sumLe {f h : Int → Int} : ∀ {l : List Int}, (∀ c ∈ l, f c ≤ h c) → (l.map f).sum ≤ (l.map h).sum
  | [], _ => Int.le_refl _
  | a :: l, hl => by
    rw [List.map_cons, List.map_cons, List.sum_cons, List.sum_cons]
    have h1 := hl a (.head _)
    have h2 := sumLe (l := l) fun c hc => hl c (.tail _ hc)
    omega
theorem sum_mul' (k : Int) (f : Int → Int) : ∀ l : List Int, (l.map fun c => k * f c).sum = k * (l.map f).sum
  | [] => (Int.mul_zero k).symm
  | a :: l => by rw [List.map_cons, List.map_cons, List.sum_cons, List.sum_cons, sum_mul' k f l, Int.mul_add]
theorem wle (g : Good m rs) (R : Rooted m rs r par dep) {ws : Int → Int} (pos : ∀ v, 0 ≤ v → v < m → 0 ≤ ws v) (std : ∀ c, 0 ≤ c → c < m → c ≠ r → ws c * tup rs par c ≤ ws (par c)) (hz : ∀ v, 0 ≤ held v) : ∀ (n : Nat) (v : Int), m.toNat - dep v = n → 0 ≤ v → v < m →
    ((preL m rs r par dep v).map fun u => ws u * held u - ws u * (tup rs par u - 1)).sum ≤ ws v * gat m rs r par dep held (giv rs par) v - ws v * (tup rs par v - 1)
  | 0, v, e, h0, h1 => by
    have := dep_lt R h0 h1
    omega
  | n + 1, v, e, h0, h1 => by
    rw [preL_step g R h0 h1, List.map_cons, List.sum_cons, flat_sum, gat_step g R h0 h1]
    have ek : ∀ u ∈ kidsOf m rs (front r par v) v, ((preL m rs r par dep u).map fun u => ws u * held u - ws u * (tup rs par u - 1)).sum ≤ ws v * giv rs par u (gat m rs r par dep held (giv rs par) u) := fun u hu => by
      obtain ⟨u1, u2, u3⟩ := (mem_kids g R h0 h1).mp hu
      have pd := R.pos u1.1 u1.2 u2
      rw [u3] at pd
      refine Int.le_trans (wle g R pos std hz n u (by omega) u1.1 u1.2) ?_
      obtain ⟨t0, t1⟩ := tup_up g R u1.1 u1.2 u2
      have st := std u u1.1 u1.2 u2
      rw [u3] at st
      have gn := gat_nn (m := m) (r := r) (par := par) (dep := dep) g hz u
      have wp := pos u u1.1 u1.2
      show _ ≤ ws v * (gat m rs r par dep held (giv rs par) u / tup rs par u)
      generalize gat m rs r par dep held (giv rs par) u = G at gn ⊢
      generalize tup rs par u = k at t0 t1 st ⊢
      generalize ws u = W at wp st ⊢
      generalize ws v = V at st ⊢
      have q0 : 0 ≤ G / k := Int.ediv_nonneg gn (by omega)
      have e1 := Int.emod_add_mul_ediv G k
      have e2 := Int.emod_lt_of_pos G (show 0 < k by omega)
      have a1 : W * G - W * (k - 1) ≤ W * k * (G / k) := by
        have : W * G = W * (G % k) + W * k * (G / k) := by rw [← e1, Int.mul_add, ← Int.mul_assoc, e1]
        rw [this]
        have : W * (G % k) ≤ W * (k - 1) := Int.mul_le_mul_of_nonneg_left (by omega) wp
        omega
      exact Int.le_trans a1 (Int.mul_le_mul_of_nonneg_right st q0)
    have s1 := sumLe ek
    rw [sum_mul' (ws v) (fun u => giv rs par u (gat m rs r par dep held (giv rs par) u))] at s1
    rw [Int.mul_add]
    omega
theorem wle_all (g : Good m rs) (R : Rooted m rs r par dep) (r0 : 0 ≤ r) (r1 : r < m) {ws : List Int} {tl : List Int} (et : preL m rs r par dep r = r :: tl) (O : Order m r par tl) (S : Slk m rs par tl ws) (hz : ∀ v, 0 ≤ held v) {w : Int} (hw : gat m rs r par dep held (giv rs par) r < w) :
    ((below m.toNat).map fun v => ws.getD v.toNat 0 * held v).sum ≤ bnd m rs r par ws w := by
  have pos : ∀ v, 0 ≤ v → v < m → 0 ≤ ws.getD v.toNat 0 := fun v h0 h1 => by have := S.pos v h0 h1; omega
  have h := wle (held := held) g R (ws := fun v => ws.getD v.toNat 0) pos (fun c c0 c1 cn => S.std c ((O.all c c0 c1).resolve_left cn)) hz _ r rfl r0 r1
  rw [et, sum_sub'] at h
  have p1 : ((r :: tl).map fun v => ws.getD v.toNat 0 * held v).sum = ((below m.toNat).map fun v => ws.getD v.toNat 0 * held v).sum := by
    refine perm_sum ((perm_of_nodup O.nd (nodup_below _) fun x => ?_).map _)
    rw [List.mem_cons, mem_below]
    refine ⟨fun h => ?_, fun h => O.all x h.1 (by have := h.2; omega)⟩
    rcases h with h | h
    · rw [h]; exact ⟨r0, by omega⟩
    · have := O.rng x h
      exact ⟨this.1, by omega⟩
  rw [← p1]
  unfold bnd
  rw [← O.sums]
  have p2 : (tl.map (slk rs par ws)).sum = (tl.map fun u => ws.getD u.toNat 0 * (tup rs par u - 1)).sum := rfl
  rw [p2]
  rw [List.map_cons (f := fun u => ws.getD u.toNat 0 * (tup rs par u - 1)), List.sum_cons] at h
  have : ws.getD r.toNat 0 * gat m rs r par dep held (giv rs par) r ≤ ws.getD r.toNat 0 * (w - 1) := Int.mul_le_mul_of_nonneg_left (by omega) (pos r r0 r1)
  omega
theorem sums_le (g : Good m rs) {ws : List Int} (pos : ∀ v, 0 ≤ v → v < m → 1 ≤ ws.getD v.toNat 0) (hz : ∀ v, 0 ≤ held v) : ((below m.toNat).map held).sum ≤ ((below m.toNat).map fun v => ws.getD v.toNat 0 * held v).sum := by
  refine sumLe fun v hv => ?_
  obtain ⟨v0, v1⟩ := mem_below.mp hv
  have := pos v v0 (by omega)
  have := Int.mul_le_mul_of_nonneg_right this (hz v)
  omega
theorem enough_all (g : Good m rs) (R : Rooted m rs r par dep) (r0 : 0 ≤ r) (r1 : r < m) {tl : List Int} (et : preL m rs r par dep r = r :: tl) (O : Order m r par tl) (hz : ∀ v, 0 ≤ held v) {w : Int} (h : bnd m rs r par (wgtL m rs r par dep) w < ((below m.toNat).map held).sum) : w ≤ gat m rs r par dep held (giv rs par) r := by
  refine Int.not_lt.mp fun hw => ?_
  have h1 := wle_all (held := held) g R r0 r1 et O (wgt_slk g R O) hz hw
  have h2 := sums_le (held := held) g (ws := wgtL m rs r par dep) (wgt_slk g R O).pos hz
  omega
theorem range_getD : ∀ (xs : List Int), (List.range xs.length).map (fun i => xs.getD i 0) = xs := fun xs => by
  refine List.ext_getElem? fun i => ?_
  rw [List.getElem?_map]
  by_cases h : i < xs.length
  · rw [List.getElem?_range h, List.getElem?_eq_getElem h]
    show some (xs.getD i 0) = _
    rw [List.getD, List.getElem?_eq_getElem h]
    rfl
  · rw [List.getElem?_eq_none (by rw [List.length_range]; omega), List.getElem?_eq_none (by omega)]
    rfl
theorem below_sum {xs : List Int} {n : Nat} (h : xs.length = n) : ((below n).map fun v => xs.getD v.toNat 0).sum = xs.sum := by
  unfold below
  rw [List.map_map, ← h]
  exact congrArg List.sum (range_getD xs)
theorem below_dot (ws xs : List Int) (n : Nat) : ((below n).map fun v => ws.getD v.toNat 0 * xs.getD v.toNat 0).sum = ((List.range n).map fun i => ws.getD i 0 * xs.getD i 0).sum := by
  unfold below
  rw [List.map_map]
  rfl
theorem getD_nn {xs : List Int} (h : ∀ x ∈ xs, 0 ≤ x) (i : Nat) : 0 ≤ xs.getD i 0 := by
  rw [List.getD]
  cases e : xs[i]? with
  | none => exact Int.le_refl _
  | some y => exact h y (List.mem_of_getElem? e)
theorem set_nn {xs : List Int} {i : Nat} {v : Int} (h : ∀ x ∈ xs, 0 ≤ x) (hv : 0 ≤ v) : ∀ x ∈ xs.set i v, 0 ≤ x := fun x hx => by
  rcases List.mem_or_eq_of_mem_set hx with h1 | h1
  · exact h x h1
  · rw [h1]; exact hv
theorem Slk.swap {t t' ws : List Int} (O : Order m r par t) (O' : Order m r par t') (S : Slk m rs par t ws) : Slk m rs par t' ws :=
  ⟨S.len, S.pos, fun c hc => S.std c ((O.all c (O'.rng c hc).1 (O'.rng c hc).2).resolve_left (O'.ne hc))⟩
theorem sum_zero' : ∀ l : List Int, (l.map fun _ => (0 : Int)).sum = 0
  | [] => rfl
  | a :: l => by rw [List.map_cons, List.sum_cons, sum_zero' l]; rfl
theorem gat_zero (g : Good m rs) (R : Rooted m rs r par dep) {v : Int} (h0 : 0 ≤ v) (h1 : v < m) : gat m rs r par dep (fun _ => 0) (giv rs par) v = 0 := by
  have : ∀ (n : Nat) (v : Int), m.toNat - dep v = n → 0 ≤ v → v < m → gat m rs r par dep (fun _ => 0) (giv rs par) v = 0 := by
    intro n
    induction n with
    | zero =>
      intro v e h0 h1
      have := dep_lt R h0 h1
      omega
    | succ n ih =>
      intro v e h0 h1
      rw [gat_step g R h0 h1, Int.zero_add]
      rw [sum_eq' (h := fun _ => 0) fun u hu => ?_]
      · exact sum_zero' _
      · obtain ⟨u1, u2, u3⟩ := (mem_kids g R h0 h1).mp hu
        have pd := R.pos u1.1 u1.2 u2
        rw [u3] at pd
        rw [ih u (by omega) u1.1 u1.2, giv_zero]
  exact this _ v rfl h0 h1
theorem ben_top (R : Rooted m rs r par dep) : ∀ (n : Nat) (v : Int), dep v = n → 0 ≤ v → v < m → benU par r n v = true
  | 0, v, e, h0, h1 => by
    refine decide_eq_true (Classical.byContradiction fun h => ?_)
    have := R.pos h0 h1 h
    omega
  | n + 1, v, e, h0, h1 => by
    show (decide (v = r) || benU par r n (par v)) = true
    by_cases h : v = r
    · rw [decide_eq_true h]; rfl
    · have u := R.up v h0 h1 h
      rw [ben_top R n (par v) (by omega) u.1.1 u.1.2, Bool.or_true]
theorem preL_full (g : Good m rs) (R : Rooted m rs r par dep) (r0 : 0 ≤ r) (r1 : r < m) : ∃ t, preL m rs r par dep r = r :: t ∧ Order m r par t :=
  preL_order g R r0 r1 (preU_ok g R _ r r0 r1).1 fun v => by
    rw [mem_pre g R r0 r1]
    exact ⟨fun h => h.1, fun h => ⟨h, ben_top R _ v rfl h.1 h.2⟩⟩
theorem sum_cap {f : Int → Int} {C : Int} : ∀ {l : List Int}, (∀ c ∈ l, f c ≤ C) → (l.map f).sum ≤ C * l.length
  | [], _ => by simp
  | a :: l, h => by
    have h1 := h a (.head _)
    have h2 := sum_cap (l := l) fun c hc => h c (.tail _ hc)
    rw [List.map_cons, List.sum_cons, List.length_cons, Int.natCast_add, Int.mul_add]
    show f a + (l.map f).sum ≤ C * l.length + C * 1
    omega
theorem bnd_cap (g : Good m rs) (R : Rooted m rs r par dep) (r0 : 0 ≤ r) (r1 : r < m) {w : Int} (w1 : 1 ≤ w) (w2 : w ≤ 10 ^ 60) : 0 ≤ bnd m rs r par (wgtL m rs r par dep) w ∧ bnd m rs r par (wgtL m rs r par dep) w + 1 < 2 ^ 720 := by
  have m24 := g.m24
  obtain ⟨tl, et, O⟩ := preL_full g R r0 r1
  have hl := O.perm_len r0 r1
  constructor
  · have h1 := wle_all (held := fun _ => 0) g R r0 r1 et O (wgt_slk g R O) (fun _ => Int.le_refl _) (w := w) (Int.lt_of_le_of_lt (Int.le_refl _) (by rw [gat_zero g R r0 r1]; omega))
    refine Int.le_trans (Int.le_of_eq ?_) h1
    rw [show (fun v : Int => (wgtL m rs r par dep).getD v.toNat 0 * (0 : Int)) = fun _ => 0 from funext fun v => Int.mul_zero _]
    exact (sum_zero' _).symm
  · unfold bnd
    rw [← O.sums, show (wgtL m rs r par dep).getD r.toNat 0 = wgt m rs r par dep r from foL_get r0 r1]
    obtain ⟨a0, a1⟩ := wgt_bound g R r0 r1
    have h1 : wgt m rs r par dep r * (w - 1) ≤ 2 ^ 480 * 10 ^ 60 := Int.mul_le_mul a1 (by omega) (by omega) (by decide +kernel)
    have h2 : (tl.map (slk rs par (wgtL m rs r par dep))).sum ≤ 2 ^ 480 * 1000000 * tl.length := sum_cap fun c hc => by
      obtain ⟨c0, c1⟩ := O.rng c hc
      obtain ⟨t0, t1⟩ := tup_up g R c0 c1 (O.ne hc)
      obtain ⟨b0, b1⟩ := wgt_bound g R c0 c1
      unfold slk
      rw [show (wgtL m rs r par dep).getD c.toNat 0 = wgt m rs r par dep c from foL_get c0 c1]
      exact Int.mul_le_mul b1 (show tup rs par c - 1 ≤ 1000000 by omega) (show 0 ≤ tup rs par c - 1 by omega) (by decide +kernel)
    have h3 : (2 : Int) ^ 480 * 1000000 * tl.length ≤ 2 ^ 480 * 1000000 * 24 := Int.mul_le_mul_of_nonneg_left (by omega) (by decide +kernel)
    have h4 : (2 : Int) ^ 480 * 10 ^ 60 + 2 ^ 480 * 1000000 * 24 + 1 < 2 ^ 720 := by decide +kernel
    omega
end
end Pb
set_option Elab.async false
set_option linter.all false
set_option maxRecDepth 100000
set_option maxHeartbeats 4000000
namespace Pk
open PySem L2 Pb
seal L2.PSs L2.PS L2.PE L2.PT L2.PW L2.PA L2.PG L2.PGs L2.PI L2.PTs L2.PC L2.PPs L2.PO
abbrev top (i : Nat) : Stmt := Hd.top i
local macro_rules | `(tactic| walk_at "rd") => `(tactic| ((try dsimp only [tYes, tIsN, tNotN, Ends.less, tRaise_eq, tTry_eq, tHand_eq, tFor_eq, tForD, iStr, tJoinR, tComp_eq', iTup, iList, iAny, iRng1, iRng2, iRng3, iEnum, iRev, iZip, cxOf_K, tNever_eq, tListR, tRet, tRetN, tSeq, tNext, tAsg, gName, gTup, gCons, gNil, gSub, tPar3, tAugS, tAug, tMinD, tNotT, ipI, tIfS, tDrop, tTest, tB, tChain, tC, tVar, tOp, tUn, rI0, rI, rU, rEq, rNe, tCall, tMake, tCons, tNil, tTup, tLst, tCB, tBM, tBM0, tFld, sFld, tDIn, tDInN, tDNotIn, sDPut, tDGet, tDisp, tDispT, tPairs, tDNewK, tDNewT, tAnd, tOr, tNot, tAndV, tOrV, tNotV, tIf, List.nil_append, List.append_nil, List.set_cons_zero, List.set_cons_succ, List.getElem?_cons_zero, List.getElem?_cons_succ]); (try simp only [tYes, tIsN, tNotN, Ends.less, tRaise_eq, tTry_eq, tHand_eq, tFor_eq, tForD, iStr, tJoinR, tComp_eq', iTup, iList, iAny, iRng1, iRng2, iRng3, iEnum, iRev, iZip, cxOf_K, tNever_eq, tListR, tRet, tRetN, tSeq, tNext, tAsg, gName, gTup, gCons, gNil, gSub, tPar3, tAugS, tAug, tMinD, tNotT, ipI, tIfS, tDrop, tTest, tB, tChain, tC, tVar, tOp, tUn, rI0, rI, rU, rEq, rNe, scal_ii, scal_bb, scal_in, scal_ni, scal_nn, scal_ss, tCall, tMake, tCons, tNil, tTup, tLst, tCB, tBM, tBM0, tFld, sFld, tDIn, tDInN, tDNotIn, sDPut, tDGet, tDisp, tDispT, tPairs, tDNewK, tDNewT, tAnd, tOr, tNot, tAndV, tOrV, tNotV, tIf, List.nil_append, List.append_nil, List.set_cons_zero, List.set_cons_succ, List.getElem?_cons_zero, List.getElem?_cons_succ, Option.some.injEq, V.int.injEq, V.bl.injEq, V.ref.injEq, List.cons.injEq, exists_eq_left, exists_eq_left', exists_and_left, exists_const, and_true, true_and, decide_eq_true_eq, Bool.not_eq_true', decide_eq_false_iff_not, Bool.true_eq_false, Bool.false_eq_true, if_true, if_false])))
set_option genSizeOf false in
set_option genInjectivity false in
structure Txt (K : PySem.W.Frag) (mg : Str → Option Value) where
  BadWeb : Addr
  m_BadWeb : mg "BadWeb" = some (.ref BadWeb)
  NoPlace : Addr
  m_NoPlace : mg "NoPlace" = some (.ref NoPlace)
  NoRoad : Addr
  m_NoRoad : mg "NoRoad" = some (.ref NoRoad)
  BadWish : Addr
  m_BadWish : mg "BadWish" = some (.ref BadWish)
  Web : Addr
  m_Web : mg "Web" = some (.ref Web)
  e_NoPlace : XObj K NoPlace
  e_NoRoad : XObj K NoRoad
  e_BadWish : XObj K BadWish
  range : mg "range" = none
  zip : mg "zip" = none
  len : mg "len" = none
  all : mg "all" = none
  int : mg "int" = none
  tuple : mg "tuple" = none
  list : mg "list" = none
  reversed : mg "reversed" = none
  sorted : mg "sorted" = none
  min : mg "min" = none
  max : mg "max" = none
  sum : mg "sum" = none
  c_MOST_PLACES : ∃ t, mg "MOST_PLACES" = some (.int 24 t)
  c_LEAST_TOLL : ∃ t, mg "LEAST_TOLL" = some (.int 2 t)
  c_MOST_TOLL : ∃ t, mg "MOST_TOLL" = some (.int 1000000 t)
  cl_Web : Cls K Web
  n_many : NoAttr K Web "many"
  n_roads : NoAttr K Web "roads"
section
variable {P : Program} {w : World} {K : PySem.W.Frag} {mg : Str → Option Value} {base : Heap} {CX : CXT}
/-! #### check_counts -/
def sp_check_counts (T : Txt K mg) : Sp := fun vs H Q _ => ∃ (m : Int) (t : Addr) (xs : List V), vs = [.int m, .ref t] ∧ SqT K H t xs ∧ 1 ≤ m ∧ m ≤ 24 ∧ (xs.length : Int) = m - 1 ∧ Q .non H
abbrev s_check_counts : Stmt := top 15
theorem sc_check_counts : FnScope ["many", "roads"] ["many", "roads"] (defScope s_check_counts) := FnScope.of (by kernel_rfl)
theorem n_check_counts__many : NmL (defScope s_check_counts) "many" := .of (by kernel_rfl)
theorem n_check_counts__roads : NmL (defScope s_check_counts) "roads" := .of (by kernel_rfl)
theorem n_check_counts__MOST_PLACES : NmG (defScope s_check_counts) "MOST_PLACES" := .of (by kernel_rfl)
theorem n_check_counts__BadWeb : NmG (defScope s_check_counts) "BadWeb" := .of (by kernel_rfl)
theorem n_check_counts__len : NmG (defScope s_check_counts) "len" := .of (by kernel_rfl)

theorem ok_check_counts (T : Txt K mg) (hq : Quiet (CXe P w)) {f : Addr} {fd : FuncData} (D : Df K mg "check_counts" s_check_counts ["many", "roads"] f fd) : FnOk P w K mg base (CXe P w) 1 f fd ["many", "roads"] (sp_check_counts T) := by
  refine D.F.okC sc_check_counts (fun vs H Q E h => ?_) (fun cdv A outer s H vs Q E hr h => ?_)
  · obtain ⟨m, t, xs, rfl, _⟩ := h
    rfl
  · obtain ⟨m, t, xs, rfl, ht, h1, h2, hl, k⟩ := h
    refine ⟨_, (pss_cons (ps_if (pt_not (pt_chain op_le op_le pe_int (pvl 0 n_check_counts__many) (pe_globI n_check_counts__MOST_PLACES.g T.c_MOST_PLACES (hd := n_check_counts__MOST_PLACES.d)))) (pss_one ps_never) pss_nil) (pss_one (ps_if (pt_cmpR op_ne (pe_callB call_len_seq n_check_counts__len.g T.len pb_len (pa_cons (pvl 1 n_check_counts__roads) pa_nil) (hn := n_check_counts__len.n) (hdb := n_check_counts__len.d)) (pe_op op_sub (pvl 0 n_check_counts__many) pe_int) (nomark _)) (pss_one ps_never) pss_nil))), ?_⟩
    rw [show L2.start ["many", "roads"] [V.int m, V.ref t] = [some (V.int m), some (V.ref t)] from rfl]
    walk_at "rd"
    rw [if_pos h1, if_neg (by omega)]
    exact ⟨xs, .inr ht, by rw [if_neg (by omega)]; exact k⟩
/-! #### is_place -/
def sp_is_place (T : Txt K mg) : Sp := fun vs H Q _ => ∃ m n : Int, vs = [.int m, .int n] ∧ Q (.bl (decide (0 ≤ n) && decide (n < m))) H
abbrev s_is_place : Stmt := top 14
theorem sc_is_place : FnScope ["many", "number"] ["many", "number"] (defScope s_is_place) := FnScope.of (by kernel_rfl)
theorem n_is_place__many : NmL (defScope s_is_place) "many" := .of (by kernel_rfl)
theorem n_is_place__number : NmL (defScope s_is_place) "number" := .of (by kernel_rfl)

theorem ok_is_place (T : Txt K mg) (hq : Quiet (CXe P w)) {f : Addr} {fd : FuncData} (D : Df K mg "is_place" s_is_place ["many", "number"] f fd) : FnOk P w K mg base (CXe P w) 1 f fd ["many", "number"] (sp_is_place T) := by
  refine D.F.okC sc_is_place (fun vs H Q E h => ?_) (fun cdv A outer s H vs Q E hr h => ?_)
  · obtain ⟨m, n, rfl, _⟩ := h
    rfl
  · obtain ⟨m, n, rfl, k⟩ := h
    refine ⟨_, (pss_one (ps_ret (pe_chain op_le op_lt pe_int (pvl 1 n_is_place__number) (pvl 0 n_is_place__many)))), ?_⟩
    rw [show L2.start ["many", "number"] [V.int m, V.int n] = [some (V.int m), some (V.int n)] from rfl]
    walk_at "rd"
    by_cases c : 0 ≤ n
    · simpa [c] using k
    · simpa [c] using k
/-! #### check_ends -/
def sp_check_ends (T : Txt K mg) : Sp := fun vs H Q _ => ∃ (m : Int) (p : Addr) (r : Road), vs = [.int m, .ref p] ∧ H p = some (.tup (vRoad r)) ∧ 0 ≤ r.a ∧ r.a < m ∧ 0 ≤ r.b ∧ r.b < m ∧ r.a ≠ r.b ∧ Q .non H
abbrev s_check_ends : Stmt := top 16
theorem sc_check_ends : FnScope ["many", "road"] ["many", "road"] (defScope s_check_ends) := FnScope.of (by kernel_rfl)
theorem n_check_ends__many : NmL (defScope s_check_ends) "many" := .of (by kernel_rfl)
theorem n_check_ends__road : NmL (defScope s_check_ends) "road" := .of (by kernel_rfl)
theorem n_check_ends__is_place : NmG (defScope s_check_ends) "is_place" := .of (by kernel_rfl)
theorem n_check_ends__BadWeb : NmG (defScope s_check_ends) "BadWeb" := .of (by kernel_rfl)

theorem ok_check_ends (T : Txt K mg) (hq : Quiet (CXe P w)) {f : Addr} {fd : FuncData} (D : Df K mg "check_ends" s_check_ends ["many", "road"] f fd) {f_is_place : Addr} {fd_is_place : FuncData} (D_is_place : Df K mg "is_place" s_is_place ["many", "number"] f_is_place fd_is_place) (G_is_place : FnOk P w K mg base (CXe P w) 1 f_is_place fd_is_place ["many", "number"] (sp_is_place T)) : FnOk P w K mg base (CXe P w) 2 f fd ["many", "road"] (sp_check_ends T) := by
  refine D.F.okC sc_check_ends (fun vs H Q E h => ?_) (fun cdv A outer s H vs Q E hr h => ?_)
  · obtain ⟨m, p, r, rfl, _⟩ := h
    rfl
  · obtain ⟨m, p, r, rfl, hp, a0, a1, b0, b1, ne, k⟩ := h
    refine ⟨_, (pss_cons (ps_if (PW.pt (pw_or (pt_not (pt_val (pe_call G_is_place (hr.mono (by decide)) n_check_ends__is_place.g D_is_place.m D_is_place.F.kp D_is_place.b .nil (passQ hq) (pa_cons (pvl 0 n_check_ends__many) (pa_cons (pe_ix ix_tup (pvl 1 n_check_ends__road) pe_int (fun _ _ => rfl)) pa_nil)) (hdb := n_check_ends__is_place.d)))) (pw_or1 (pt_not (pt_val (pe_call G_is_place (hr.mono (by decide)) n_check_ends__is_place.g D_is_place.m D_is_place.F.kp D_is_place.b .nil (passQ hq) (pa_cons (pvl 0 n_check_ends__many) (pa_cons (pe_ix ix_tup (pvl 1 n_check_ends__road) pe_int (fun _ _ => rfl)) pa_nil)) (hdb := n_check_ends__is_place.d))))))) (pss_one ps_never) pss_nil) (pss_one (ps_if (pt_cmpR op_eq (pe_ix ix_tup (pvl 1 n_check_ends__road) pe_int (fun _ _ => rfl)) (pe_ix ix_tup (pvl 1 n_check_ends__road) pe_int (fun _ _ => rfl)) (nomark _)) (pss_one ps_never) pss_nil))), ?_⟩
    rw [show L2.start ["many", "road"] [V.int m, V.ref p] = [some (V.int m), some (V.ref p)] from rfl]
    walk_at "rd"
    refine ixT hp rfl ⟨m, r.a, rfl, _, rfl, ?_⟩
    rw [if_neg (by simp [a0, a1])]
    refine ixT hp rfl ⟨m, r.b, rfl, _, rfl, ?_⟩
    rw [if_neg (by simp [b0, b1])]
    refine ixT hp rfl (ixT hp rfl ⟨rfl, ?_⟩)
    rw [if_neg (by simpa using ne)]
    exact k
/-! #### other_ends -/
def sp_other_ends (T : Txt K mg) : Sp := fun vs H Q _ => ∃ (t : Addr) (ps : List Addr) (rs : List Road) (n : Int), vs = [.ref t, .int n] ∧ SqT K H t (ps.map V.ref) ∧ RoadsAt H ps rs ∧ rs.length ≤ 1000 ∧
  ∀ l H', H l = none → Same H H' → H' l = some (.lst ((ends rs n).map V.int)) → Q (.ref l) H'
abbrev s_other_ends : Stmt := top 19
theorem sc_other_ends : FnScope ["roads", "place", "ends", "road"] ["roads", "place"] (defScope s_other_ends) := FnScope.of (by kernel_rfl)
theorem n_other_ends__roads : NmL (defScope s_other_ends) "roads" := .of (by kernel_rfl)
theorem n_other_ends__place : NmL (defScope s_other_ends) "place" := .of (by kernel_rfl)
theorem n_other_ends__ends : NmL (defScope s_other_ends) "ends" := .of (by kernel_rfl)
theorem n_other_ends__road : NmL (defScope s_other_ends) "road" := .of (by kernel_rfl)

theorem ok_other_ends (T : Txt K mg) (hq : Quiet (CXe P w)) {f : Addr} {fd : FuncData} (D : Df K mg "other_ends" s_other_ends ["roads", "place"] f fd) : FnOk P w K mg base (CXe P w) 1 f fd ["roads", "place"] (sp_other_ends T) := by
  refine D.F.okC sc_other_ends (fun vs H Q E h => ?_) (fun cdv A outer s H vs Q E hr h => ?_)
  · obtain ⟨t, ps, rs, n, rfl, _⟩ := h
    rfl
  · obtain ⟨t, ps, rs, n, rfl, ht, hp, hl, k⟩ := h
    refine ⟨_, (pss_cons (ps_set (i := 2) sc_other_ends.nd rfl (Or.inl n_other_ends__ends.l) (pe_lst pa_nil)) (pss_cons (ps_for PassesOwn.never rfl (pi_tup (pvl 0 n_other_ends__roads)) (pg_name (i := 3) sc_other_ends.nd rfl (Or.inl n_other_ends__road.l)) (pss_cons (ps_if (pt_cmpR op_eq (pe_ix ix_tup (pvl 3 n_other_ends__road) pe_int (fun _ _ => rfl)) (pvl 1 n_other_ends__place) (nomark _)) (pss_one (ps_expr (pe_bm PySem.F.plainAttrs_list PySem.F.slot_list_append PySem.F.type_list_append mt_append (pvl 2 n_other_ends__ends) (pa_cons (pe_ix ix_tup (pvl 3 n_other_ends__road) pe_int (fun _ _ => rfl)) pa_nil)))) pss_nil) (pss_one (ps_if (pt_cmpR op_eq (pe_ix ix_tup (pvl 3 n_other_ends__road) pe_int (fun _ _ => rfl)) (pvl 1 n_other_ends__place) (nomark _)) (pss_one (ps_expr (pe_bm PySem.F.plainAttrs_list PySem.F.slot_list_append PySem.F.type_list_append mt_append (pvl 2 n_other_ends__ends) (pa_cons (pe_ix ix_tup (pvl 3 n_other_ends__road) pe_int (fun _ _ => rfl)) pa_nil)))) pss_nil)))) (pss_one (ps_ret (pvl 2 n_other_ends__ends))))), ?_⟩
    rw [show L2.start ["roads", "place", "ends", "road"] [V.ref t, V.int n] = [some (V.ref t), some (V.int n), none, none] from rfl]
    walk_at "rd"
    refine ⟨by decide, fun l hn => ?_⟩
    have hlen : ps.length = rs.length := Paired.length hp
    refine ⟨⟨_, Same.tup (Same.new _ hn) ht⟩, for_tup (xs := ps.map V.ref) (fun i σ H2 => H2 = upd H l (.lst ((ends (rs.take i) n).map V.int)) ∧ ∃ v, σ = [some (.ref t), some (.int n), some (.ref l), v]) ⟨rfl, _, rfl⟩ (fun i σ H2 _ z => by rw [z.1]; exact Same.tup (Same.new _ hn) ht) ?_ ?_⟩
    · rintro i x σ H2 hi ⟨rfl, v, rfl⟩
      obtain ⟨p, r, rfl, h1, h2, h3⟩ := hp.get hi
      have np : p ≠ l := ne_of_none h3 hn
      have hil : i < rs.length := (List.getElem?_eq_some_iff.mp h2).1
      have et : rs.take (i + 1) = rs.take i ++ [r] := by rw [List.take_succ, h2]; rfl
      have hb : (ends (rs.take i) n).length ≤ 2000 := Nat.le_trans (ends_len _ _) (by rw [List.length_take]; omega)
      have hx : ∀ o, upd H l o p = some (.tup (vRoad r)) := fun o => by rw [upd_ne np]; exact h3
      walk_at "rd"
      refine ixT (hx _) rfl ?_
      walk_at "rd"
      have fin : ∀ (ys : List Int), (ends (rs.take i) n ++ ys) = ends (rs.take (i + 1)) n → upd H l (.lst ((ends (rs.take i) n).map V.int ++ ys.map V.int)) = upd H l (.lst ((ends (rs.take (i + 1)) n).map V.int)) := fun ys e => by
        rw [← List.map_append, e]
      have e1 : ends1 n r = (if r.a = n then [r.b] else []) ++ (if r.b = n then [r.a] else []) := rfl
      by_cases ca : r.a = n
      · rw [if_pos ca]
        refine ⟨tyL upd_same, ixT (hx _) rfl (appR upd_same (small (by rw [List.length_map]; omega)) ?_)⟩
        rw [upd_upd]
        refine ixT (hx _) rfl ?_
        walk_at "rd"
        by_cases cb : r.b = n
        · rw [if_pos cb]
          refine ⟨tyL upd_same, ixT (hx _) rfl (appR upd_same (small (by rw [List.length_append, List.length_map]; simp; omega)) ?_)⟩
          rw [upd_upd, List.append_assoc]
          exact ⟨fin [r.b, r.a] (by rw [et, ends_snoc, e1, if_pos ca, if_pos cb]; rfl), _, rfl⟩
        · rw [if_neg cb]
          exact ⟨fin [r.b] (by rw [et, ends_snoc, e1, if_pos ca, if_neg cb]; rfl), _, rfl⟩
      · rw [if_neg ca]
        refine ixT (hx _) rfl ?_
        walk_at "rd"
        by_cases cb : r.b = n
        · rw [if_pos cb]
          refine ⟨tyL upd_same, ixT (hx _) rfl (appR upd_same (small (by rw [List.length_map]; omega)) ?_)⟩
          rw [upd_upd]
          exact ⟨fin [r.a] (by rw [et, ends_snoc, e1, if_neg ca, if_pos cb]; rfl), _, rfl⟩
        · rw [if_neg cb]
          have := fin [] (by rw [et, ends_snoc, e1, if_neg ca, if_neg cb]; rfl)
          rw [List.map_nil, List.append_nil] at this
          exact ⟨this, _, rfl⟩
    · rintro σ H2 ⟨rfl, v, rfl⟩
      rw [List.length_map, hlen, List.take_length]
      exact ⟨_, rfl, k l _ hn (Same.new _ hn) upd_same⟩
/-! #### check_joined -/
def kvsOf (ks : List Int) : List (Key × V) := ks.map fun k => ((Sum.inl k : Key), V.bl true)
theorem kvsOf_len (ks : List Int) : (kvsOf ks).length = ks.length := by unfold kvsOf; rw [List.length_map]
theorem valV_kvs (ks : List Int) (e : Int) : valV (kvsOf ks) (Sum.inl e : Key) = if e ∈ ks then some (V.bl true) else none := by
  unfold kvsOf
  induction ks with
  | nil => rfl
  | cons k ks ih =>
    rw [List.map_cons]
    by_cases c : k = e
    · rw [valV_pos (by rw [c]), if_pos (by rw [c]; exact List.mem_cons_self)]
    · rw [valV_neg (fun z => c (Sum.inl.inj z)), ih]
      by_cases d : e ∈ ks
      · rw [if_pos d, if_pos (List.mem_cons_of_mem _ d)]
      · rw [if_neg d, if_neg (fun z => by rcases List.mem_cons.mp z with z | z; exact c z.symm; exact d z)]
theorem putK_kvs {ks : List Int} {e : Int} (h : e ∉ ks) : putK (kvsOf ks) (Sum.inl e : Key) (V.bl true) = kvsOf (ks ++ [e]) := by
  rw [putK_new _ (by rw [valV_kvs, if_neg h])]
  unfold kvsOf
  rw [List.map_append]
  rfl
def sp_check_joined (T : Txt K mg) : Sp := fun vs H Q _ => ∃ (m : Int) (t : Addr) (ps : List Addr) (rs : List Road), vs = [.int m, .ref t] ∧ SqT K H t (ps.map V.ref) ∧ RoadsAt H ps rs ∧ Good m rs ∧ ∀ H', Same H H' → Q .non H'
abbrev s_check_joined : Stmt := top 18
theorem sc_check_joined : FnScope ["many", "roads", "reached", "waiting", "place", "end"] ["many", "roads"] (defScope s_check_joined) := FnScope.of (by kernel_rfl)
theorem n_check_joined__many : NmL (defScope s_check_joined) "many" := .of (by kernel_rfl)
theorem n_check_joined__roads : NmL (defScope s_check_joined) "roads" := .of (by kernel_rfl)
theorem n_check_joined__reached : NmL (defScope s_check_joined) "reached" := .of (by kernel_rfl)
theorem n_check_joined__waiting : NmL (defScope s_check_joined) "waiting" := .of (by kernel_rfl)
theorem n_check_joined__place : NmL (defScope s_check_joined) "place" := .of (by kernel_rfl)
theorem n_check_joined__end : NmL (defScope s_check_joined) "end" := .of (by kernel_rfl)
theorem n_check_joined__other_ends : NmG (defScope s_check_joined) "other_ends" := .of (by kernel_rfl)
theorem n_check_joined__len : NmG (defScope s_check_joined) "len" := .of (by kernel_rfl)
theorem n_check_joined__BadWeb : NmG (defScope s_check_joined) "BadWeb" := .of (by kernel_rfl)

theorem ok_check_joined (T : Txt K mg) (hq : Quiet (CXe P w)) {f : Addr} {fd : FuncData} (D : Df K mg "check_joined" s_check_joined ["many", "roads"] f fd) {f_other_ends : Addr} {fd_other_ends : FuncData} (D_other_ends : Df K mg "other_ends" s_other_ends ["roads", "place"] f_other_ends fd_other_ends) (G_other_ends : FnOk P w K mg base (CXe P w) 1 f_other_ends fd_other_ends ["roads", "place"] (sp_other_ends T)) : FnOk P w K mg base (CXe P w) 2 f fd ["many", "roads"] (sp_check_joined T) := by
  refine D.F.okC sc_check_joined (fun vs H Q E h => ?_) (fun cdv A outer s H vs Q E hr h => ?_)
  · obtain ⟨m, t, ps, rs, rfl, _⟩ := h
    rfl
  · obtain ⟨m, t, ps, rs, rfl, ht, hp, g, k⟩ := h
    have hu := hu_of hr
    refine ⟨_, (pss_cons (ps_set (i := 2) sc_check_joined.nd rfl (Or.inl n_check_joined__reached.l) (pe_disp (pps_cons pe_int pe_bl pps_nil) rfl rfl (List.cons_ne_nil _ _) (by decide))) (pss_cons (ps_set (i := 3) sc_check_joined.nd rfl (Or.inl n_check_joined__waiting.l) (pe_lst (pa_cons pe_int pa_nil))) (pss_cons (ps_while PassesOwn.never (pt_truth (pvl 3 n_check_joined__waiting) (fun _ => rfl)) (pss_cons (ps_set (i := 4) sc_check_joined.nd rfl (Or.inl n_check_joined__place.l) (pe_bm0 PySem.F.plainAttrs_list PySem.F.slot_list_pop PySem.F.type_list_pop mt_pop (pvl 3 n_check_joined__waiting))) (pss_one (ps_for PassesOwn.never rfl (pi_list (pe_call G_other_ends (hr.mono (by decide)) n_check_joined__other_ends.g D_other_ends.m D_other_ends.F.kp D_other_ends.b .nil (passQ hq) (pa_cons (pvl 1 n_check_joined__roads) (pa_cons (pvl 4 n_check_joined__place) pa_nil)) (hdb := n_check_joined__other_ends.d))) (pg_name (i := 5) sc_check_joined.nd rfl (Or.inl n_check_joined__end.l)) (pss_one (ps_if (pt_cmp (pc_dnotin hu (pvl 5 n_check_joined__end) (pvl 2 n_check_joined__reached))) (pss_cons (ps_dput hu (pvl 2 n_check_joined__reached) (pvl 5 n_check_joined__end) pe_bl rfl) (pss_one (ps_expr (pe_bm PySem.F.plainAttrs_list PySem.F.slot_list_append PySem.F.type_list_append mt_append (pvl 3 n_check_joined__waiting) (pa_cons (pvl 5 n_check_joined__end) pa_nil))))) pss_nil)))))) (pss_one (ps_if (pt_cmpR op_ne (pe_callB call_lenD n_check_joined__len.g T.len pb_len (pa_cons (pvl 2 n_check_joined__reached) pa_nil) (hn := n_check_joined__len.n) (hdb := n_check_joined__len.d)) (pvl 0 n_check_joined__many) (nomark _)) (pss_one ps_never) pss_nil))))), ?_⟩
    rw [show L2.start ["many", "roads", "reached", "waiting", "place", "end"] [V.int m, V.ref t] = [some (V.int m), some (V.ref t), none, none, none, none] from rfl]
    have m1 := g.m1
    have m24 := g.m24
    have glen := g.len
    walk_at "rd"
    intro d hd
    refine ⟨upd_same, [(Sum.inl 0, .bl true)], rfl, by decide, ?_⟩
    rw [upd_upd]
    refine ⟨by decide, fun w0 hw => ?_⟩
    have ed : mergeK [] [((Sum.inl 0 : Key), V.bl true)] = kvsOf [0] := rfl
    rw [ed]
    have ndw : w0 ≠ d := fun z => by rw [z, upd_same] at hw; cases hw
    have hw0 : H w0 = none := by rw [upd_ne ndw] at hw; exact hw
    refine while_n (fun n σ H2 => ∃ (ks ws : List Int) (v4 v5 : Option V), n = 2 * (m.toNat - ks.length) + ws.length ∧ σ = [some (.int m), some (.ref t), some (.ref d), some (.ref w0), v4, v5] ∧ Same H H2 ∧ H2 d = some (.dK (kvsOf ks)) ∧ H2 w0 = some (.lst (ws.map V.int)) ∧ JInv m rs ks ws) _ ⟨[0], [0], none, none, rfl, rfl, ?_, ?_, upd_same, JInv.start m1⟩ ?_
    · exact Same.trans (Same.new _ hd) (Same.new _ hw)
    · rw [upd_ne ndw.symm, upd_same]
    rintro n σ H2 NW hN hN2 ⟨ks, ws, v4, v5, rfl, rfl, sm, h1, h2, J⟩
    have kl := nodup_len (by omega) J.nd J.rng
    refine ⟨_, rfl, !(ws.map V.int).isEmpty, .inl ⟨_, SqL.of h2, rfl⟩, ?_⟩
    rcases List.eq_nil_or_concat ws with rfl | ⟨ws', p, rfl⟩
    · -- nothing waits: all places have been reached
      have full := J.all m1 g.jn
      refine iteF ?_
      walk_at "rd"
      refine ⟨kvsOf ks, h1, ?_⟩
      rw [kvsOf_len, if_neg (by omega)]
      exact k _ sm
    · rw [List.concat_eq_append] at J h2 hN hN2 ⊢
      have e1 : (!(List.map V.int (ws' ++ [p])).isEmpty) = true := by simp
      rw [e1]
      refine iteT ⟨NW, hN2, ?_⟩
      walk_at "rd"
      rw [List.map_append, List.map_cons, List.map_nil] at h2
      refine ⟨tyL h2, popR h2 ?_⟩
      have ndw' : d ≠ w0 := ndw.symm
      have sm2 : Same H (upd H2 w0 (.lst (ws'.map V.int))) := fun b o e => by rw [upd_ne (ne_of_none e hw0)]; exact sm b o e
      refine ⟨t, ps, rs, p, rfl, Same.tup sm2 ht, RoadsAt.same sm2 hp, by omega, fun l H3 hn s3 hl => ?_⟩
      have nlw : w0 ≠ l := ne_of_none (o := .lst (ws'.map V.int)) upd_same hn
      have nld : d ≠ l := ne_of_none (o := .dK (kvsOf ks)) (by rw [upd_ne ndw']; exact h1) hn
      have hl0 : H l = none := sm2.free hn
      refine ⟨l, rfl, ⟨_, SqL.of hl⟩, for_listN (K := K) (xs := (ends rs p).map V.int) (fun i σ H4 => ∃ (v5 : Option V), σ = [some (.int m), some (.ref t), some (.ref d), some (.ref w0), some (.int p), v5] ∧ Same H H4 ∧ H4 l = some (.lst ((ends rs p).map V.int)) ∧
        ∃ ks4 ws4 : List Int, H4 d = some (.dK (kvsOf ks4)) ∧ H4 w0 = some (.lst (ws4.map V.int)) ∧ JMid m rs p ((ends rs p).take i) ks4 ws4 ks ws'.length) ?_ (fun i σ H4 _ z => by obtain ⟨_, _, _, z, _⟩ := z; exact SqL.of z) ?_ ?_⟩
      · refine ⟨_, rfl, sm2.trans s3, hl, ks, ws', ?_, ?_, ?_⟩
        · exact s3 _ _ (by rw [upd_ne ndw']; exact h1)
        · exact s3 _ _ upd_same
        · rw [List.take_zero]; exact JMid.start J
      · rintro i x σ H4 NI hI hi ⟨v5, rfl, s4, hl4, ks4, ws4, hd4, hw4, M⟩
        rw [List.getElem?_map] at hi
        obtain ⟨e, he, rfl⟩ : ∃ e, (ends rs p)[i]? = some e ∧ V.int e = x := by
          cases q : (ends rs p)[i]? with
          | none => rw [q] at hi; cases hi
          | some e => rw [q] at hi; exact ⟨e, rfl, Option.some.inj hi⟩
        have er := ends_rng g.ok (List.mem_of_getElem? he)
        have et : (ends rs p).take (i + 1) = (ends rs p).take i ++ [e] := by rw [List.take_succ, he]; rfl
        have st := M.step er.1 er.2
        have k4 := nodup_len (by omega) M.nd M.rng
        have mu4 := M.mu
        walk_at "rd"
        refine ⟨_, DGet.k (k := Sum.inl e) hd4, ?_⟩
        rw [valV_kvs]
        by_cases c : e ∈ ks4
        · rw [if_pos c]
          rw [if_neg (by simp)]
          refine hI _ _ ⟨_, rfl, s4, hl4, ks4, ws4, hd4, hw4, ?_⟩
          rw [et]
          unfold jstep at st
          rw [if_pos c] at st
          exact st
        · rw [if_neg c]
          rw [if_pos (by simp)]
          refine ⟨_, DPut.k (k := Sum.inl e) hd4 (small (by rw [kvsOf_len]; omega)), ?_⟩
          rw [putK_kvs c]
          have hw5 : upd H4 d (.dK (kvsOf (ks4 ++ [e]))) w0 = some (.lst (ws4.map V.int)) := by rw [upd_ne ndw]; exact hw4
          refine ⟨tyL hw5, appR hw5 (small (by rw [List.length_map]; have := M.wl; omega)) ?_⟩
          have hmid := M.mu
          refine hI _ _ ⟨_, rfl, fun b o z => ?_, ?_, ks4 ++ [e], ws4 ++ [e], ?_, ?_, ?_⟩
          · rw [upd_ne (ne_of_none z hw0), upd_ne (ne_of_none z hd)]; exact s4 b o z
          · rw [upd_ne nlw.symm, upd_ne nld.symm]; exact hl4
          · rw [upd_ne ndw', upd_same]
          · rw [upd_same, List.map_append]; rfl
          · rw [et]
            unfold jstep at st
            rw [if_neg c] at st
            exact st
      · rintro σ H4 ⟨v5, rfl, s4, hl4, ks4, ws4, hd4, hw4, M⟩
        rw [List.length_map, List.take_length] at M
        have k4 := nodup_len (by omega) M.nd M.rng
        have mu4 := M.mu
        have up4 := M.up
        refine hN _ _ _ ?_ ⟨ks4, ws4, some (.int p), v5, rfl, rfl, s4, hd4, hw4, M.done⟩
        rw [List.length_append]
        simp only [List.length_cons, List.length_nil]
        omega
/-! #### check_tolls -/
def sp_check_tolls (T : Txt K mg) : Sp := fun vs H Q _ => ∃ (p : Addr) (r : Road), vs = [.ref p] ∧ H p = some (.tup (vRoad r)) ∧ 2 ≤ r.t ∧ r.t ≤ 1000000 ∧ 2 ≤ r.u ∧ r.u ≤ 1000000 ∧ ∀ H', Same H H' → Q .non H'
abbrev s_check_tolls : Stmt := top 17
theorem sc_check_tolls : FnScope ["road", "number"] ["road"] (defScope s_check_tolls) := FnScope.of (by kernel_rfl)
theorem n_check_tolls__road : NmL (defScope s_check_tolls) "road" := .of (by kernel_rfl)
theorem n_check_tolls__number : NmL (defScope s_check_tolls) "number" := .of (by kernel_rfl)
theorem n_check_tolls__LEAST_TOLL : NmG (defScope s_check_tolls) "LEAST_TOLL" := .of (by kernel_rfl)
theorem n_check_tolls__MOST_TOLL : NmG (defScope s_check_tolls) "MOST_TOLL" := .of (by kernel_rfl)
theorem n_check_tolls__BadWeb : NmG (defScope s_check_tolls) "BadWeb" := .of (by kernel_rfl)

theorem ok_check_tolls (T : Txt K mg) (hq : Quiet (CXe P w)) {f : Addr} {fd : FuncData} (D : Df K mg "check_tolls" s_check_tolls ["road"] f fd) : FnOk P w K mg base (CXe P w) 1 f fd ["road"] (sp_check_tolls T) := by
  refine D.F.okC sc_check_tolls (fun vs H Q E h => ?_) (fun cdv A outer s H vs Q E hr h => ?_)
  · obtain ⟨p, r, rfl, _⟩ := h
    rfl
  · obtain ⟨p, r, rfl, hp, t0, t1, u0, u1, k⟩ := h
    refine ⟨_, (pss_one (ps_for PassesOwn.never rfl (pi_tup (pe_tup (pa_cons (pe_ix ix_tup (pvl 0 n_check_tolls__road) pe_int (fun _ _ => rfl)) (pa_cons (pe_ix ix_tup (pvl 0 n_check_tolls__road) pe_int (fun _ _ => rfl)) pa_nil)))) (pg_name (i := 1) sc_check_tolls.nd rfl (Or.inl n_check_tolls__number.l)) (pss_one (ps_if (pt_not (pt_chain op_le op_le (pe_globI n_check_tolls__LEAST_TOLL.g T.c_LEAST_TOLL (hd := n_check_tolls__LEAST_TOLL.d)) (pvl 1 n_check_tolls__number) (pe_globI n_check_tolls__MOST_TOLL.g T.c_MOST_TOLL (hd := n_check_tolls__MOST_TOLL.d)))) (pss_one ps_never) pss_nil)))), ?_⟩
    rw [show L2.start ["road", "number"] [V.ref p] = [some (V.ref p), none] from rfl]
    walk_at "rd"
    refine ixT hp rfl (ixT hp rfl ⟨smallE (by simp), fun q hn => ?_⟩)
    have e1 : upd H q (.tup [.int r.t, .int r.u]) q = some (.tup [.int r.t, .int r.u]) := upd_same
    refine ⟨⟨_, SqT.of e1⟩, for_tup (K := K) (xs := [.int r.t, .int r.u]) (fun i σ H2 => H2 = upd H q (.tup [.int r.t, .int r.u]) ∧ ∃ v, σ = [some (.ref p), v]) ⟨rfl, _, rfl⟩ (fun i σ H2 _ z => by rw [z.1]; exact SqT.of e1) ?_ ?_⟩
    · rintro i x σ H2 hi ⟨rfl, v, rfl⟩
      have hx : ∃ n : Int, x = .int n ∧ 2 ≤ n ∧ n ≤ 1000000 := by
        match i, hi with
        | 0, hi => exact ⟨r.t, by simpa using hi.symm, t0, t1⟩
        | 1, hi => exact ⟨r.u, by simpa using hi.symm, u0, u1⟩
      obtain ⟨n, rfl, n0, n1⟩ := hx
      walk_at "rd"
      rw [if_pos n0, if_neg (by omega)]
      exact ⟨_, rfl⟩
    · rintro σ H2 ⟨rfl, v, rfl⟩
      exact k _ (Same.new _ hn)
/-! #### Web.__init__ -/
/-- the attributes of a web -/
def wflds (m : Int) (t : Addr) : List (Str × V) := putF "roads" (.ref t) (putF "many" (.int m) [])
theorem ne_mr : ¬ (("many" : Str) = "roads") := by decide +kernel
theorem wflds_many (m : Int) (t : Addr) : (wflds m t).lookup ("many" : Str) = some (.int m) := by
  unfold wflds
  rw [lookup_putF, if_neg ne_mr, lookup_putF, if_pos rfl]
theorem wflds_roads (m : Int) (t : Addr) : (wflds m t).lookup ("roads" : Str) = some (.ref t) := by
  unfold wflds
  rw [lookup_putF, if_pos rfl]
/-- a web of m places and the roads rs stands at p, its tuple at t, the roads' tuples at ps -/
structure WebAt (C : Addr) (H : Hp) (p : Addr) (m : Int) (t : Addr) (ps : List Addr) (rs : List Road) : Prop where
  ob : ∃ dx, H p = some (.ins C dx (wflds m t))
  tu : H t = some (.tup (ps.map V.ref))
  ro : RoadsAt H ps rs
  go : Good m rs
theorem WebAt.same {C : Addr} {H H' : Hp} {p : Addr} {m : Int} {t : Addr} {ps : List Addr} {rs : List Road} (e : Same H H') (h : WebAt C H p m t ps rs) : WebAt C H' p m t ps rs :=
  ⟨let ⟨dx, q⟩ := h.ob; ⟨dx, e _ _ q⟩, e _ _ h.tu, RoadsAt.same e h.ro, h.go⟩
def sp_Web___init__ (T : Txt K mg) : Sp := fun vs H Q _ => ∃ (p dx : Addr) (m : Int) (c : Bool) (a : Addr) (ps : List Addr) (rs : List Road), vs = [.ref p, .int m, .ref a] ∧ H p = some (.ins T.Web dx []) ∧ SqX K c H a (ps.map V.ref) ∧ RoadsAt H ps rs ∧ Good m rs ∧
  ∀ t H', H t = none → WebAt T.Web H' p m t ps rs → (∀ b o, H b = some o → b ≠ p → H' b = some o) → Q .non H'
abbrev s_Web___init__ : Stmt := inClass (top 10) 0
theorem sc_Web___init__ : FnScope ["self", "many", "roads", "kept", "road"] ["self", "many", "roads"] (defScope s_Web___init__) := FnScope.of (by kernel_rfl)
theorem n_Web___init____self : NmL (defScope s_Web___init__) "self" := .of (by kernel_rfl)
theorem n_Web___init____many : NmL (defScope s_Web___init__) "many" := .of (by kernel_rfl)
theorem n_Web___init____roads : NmL (defScope s_Web___init__) "roads" := .of (by kernel_rfl)
theorem n_Web___init____kept : NmL (defScope s_Web___init__) "kept" := .of (by kernel_rfl)
theorem n_Web___init____road : NmL (defScope s_Web___init__) "road" := .of (by kernel_rfl)
theorem n_Web___init____tuple : NmG (defScope s_Web___init__) "tuple" := .of (by kernel_rfl)
theorem n_Web___init____check_counts : NmG (defScope s_Web___init__) "check_counts" := .of (by kernel_rfl)
theorem n_Web___init____check_ends : NmG (defScope s_Web___init__) "check_ends" := .of (by kernel_rfl)
theorem n_Web___init____check_tolls : NmG (defScope s_Web___init__) "check_tolls" := .of (by kernel_rfl)
theorem n_Web___init____check_joined : NmG (defScope s_Web___init__) "check_joined" := .of (by kernel_rfl)

theorem ok_Web___init__ (T : Txt K mg) (hq : Quiet (CXe P w)) {f : Addr} {fd : FuncData} (F : Fun K "__init__" "Web.__init__" s_Web___init__ f fd) {f_check_counts : Addr} {fd_check_counts : FuncData} (D_check_counts : Df K mg "check_counts" s_check_counts ["many", "roads"] f_check_counts fd_check_counts) (G_check_counts : FnOk P w K mg base (CXe P w) 1 f_check_counts fd_check_counts ["many", "roads"] (sp_check_counts T)) {f_check_ends : Addr} {fd_check_ends : FuncData} (D_check_ends : Df K mg "check_ends" s_check_ends ["many", "road"] f_check_ends fd_check_ends) (G_check_ends : FnOk P w K mg base (CXe P w) 2 f_check_ends fd_check_ends ["many", "road"] (sp_check_ends T)) {f_check_joined : Addr} {fd_check_joined : FuncData} (D_check_joined : Df K mg "check_joined" s_check_joined ["many", "roads"] f_check_joined fd_check_joined) (G_check_joined : FnOk P w K mg base (CXe P w) 2 f_check_joined fd_check_joined ["many", "roads"] (sp_check_joined T)) {f_check_tolls : Addr} {fd_check_tolls : FuncData} (D_check_tolls : Df K mg "check_tolls" s_check_tolls ["road"] f_check_tolls fd_check_tolls) (G_check_tolls : FnOk P w K mg base (CXe P w) 1 f_check_tolls fd_check_tolls ["road"] (sp_check_tolls T)) : FnOk P w K mg base (CXe P w) 3 f fd ["self", "many", "roads"] (sp_Web___init__ T) := by
  refine F.okC sc_Web___init__ (fun vs H Q E h => ?_) (fun cdv A outer s H vs Q E hr h => ?_)
  · obtain ⟨p, dx, m, c, a, ps, rs, rfl, _⟩ := h
    rfl
  · obtain ⟨p, dx, m, c, a, ps, rs, rfl, hp, ha, hro, g, k⟩ := h
    refine ⟨_, (pss_cons (ps_set (i := 3) sc_Web___init__.nd rfl (Or.inl n_Web___init____kept.l) (pe_callTy call_tuple_of n_Web___init____tuple.g T.tuple pb_tuple (pa_cons (pe_comp rfl (ct_plain (Nc := ["road"]) 1 (by decide +kernel) (by decide +kernel) rfl (by decide +kernel) rfl) (pi_any c (pvl 2 n_Web___init____roads)) (fun _ _ _ _ => (pg_name (i := 0) (show (["road"] : List Str).Nodup from by decide +kernel) rfl (Or.inl rfl))) (fun _ _ _ _ => pts_nil) (fun _ _ _ _ => (pe_callTy (call_tuple_ofK K rfl) (by rfl) T.tuple pb_tuple (pa_cons (pv 0) pa_nil)))) pa_nil) (hn := n_Web___init____tuple.n) (hdb := n_Web___init____tuple.d))) (pss_cons (ps_expr (pe_call G_check_counts (hr.mono (by decide)) n_Web___init____check_counts.g D_check_counts.m D_check_counts.F.kp D_check_counts.b .nil (passQ hq) (pa_cons (pvl 1 n_Web___init____many) (pa_cons (pvl 3 n_Web___init____kept) pa_nil)) (hdb := n_Web___init____check_counts.d))) (pss_cons (ps_for PassesOwn.never rfl (pi_tup (pvl 3 n_Web___init____kept)) (pg_name (i := 4) sc_Web___init__.nd rfl (Or.inl n_Web___init____road.l)) (pss_cons (ps_expr (pe_call G_check_ends (hr.mono (by decide)) n_Web___init____check_ends.g D_check_ends.m D_check_ends.F.kp D_check_ends.b .nil (passQ hq) (pa_cons (pvl 1 n_Web___init____many) (pa_cons (pvl 4 n_Web___init____road) pa_nil)) (hdb := n_Web___init____check_ends.d))) (pss_one (ps_expr (pe_call G_check_tolls (hr.mono (by decide)) n_Web___init____check_tolls.g D_check_tolls.m D_check_tolls.F.kp D_check_tolls.b .nil (passQ hq) (pa_cons (pvl 4 n_Web___init____road) pa_nil) (hdb := n_Web___init____check_tolls.d)))))) (pss_cons (ps_expr (pe_call G_check_joined (hr.mono (by decide)) n_Web___init____check_joined.g D_check_joined.m D_check_joined.F.kp D_check_joined.b .nil (passQ hq) (pa_cons (pvl 1 n_Web___init____many) (pa_cons (pvl 3 n_Web___init____kept) pa_nil)) (hdb := n_Web___init____check_joined.d))) (pss_cons (ps_fld (pvl 0 n_Web___init____self) (pvl 1 n_Web___init____many) rfl) (pss_one (ps_fld (pvl 0 n_Web___init____self) (pvl 3 n_Web___init____kept) rfl))))))), ?_⟩
    rw [show L2.start ["self", "many", "roads", "kept", "road"] [V.ref p, V.int m, V.ref a] = [some (V.ref p), some (V.int m), some (V.ref a), none, none] from rfl]
    walk_at "rd"
    refine ⟨⟨_, ha⟩, fun l hl => ?_⟩
    have hlen : ps.length = rs.length := Paired.length hro
    have glen := g.len
    have m24 := g.m24
    have hl1 : Same H (upd H l (.lst [])) := Same.new _ hl
    refine comp_any (K := K) (xs := ps.map V.ref) (fun i ys σ H2 => H2 = upd H l (.lst ((ps.take i).map V.ref)) ∧ ys = (ps.take i).map V.ref ∧ ∃ v, σ = [v]) ⟨rfl, rfl, _, rfl⟩ (fun i ys σ H2 _ ⟨z, _⟩ => by rw [z]; exact Same.sqX (Same.new _ hl) ha) ?_ ?_
    · rintro i x ys σ H2 N hN hi ⟨rfl, rfl, v, rfl⟩
      obtain ⟨q, r, rfl, h1, h2, h3⟩ := hro.get hi
      have nq : q ≠ l := ne_of_none h3 hl
      have hil : i < ps.length := (List.getElem?_eq_some_iff.mp h1).1
      have et : ps.take (i + 1) = ps.take i ++ [q] := by rw [List.take_succ, h1]; rfl
      walk_at "rd"
      refine ⟨vRoad r, .inr ⟨SqT.of (by rw [upd_ne nq]; exact h3), upd_same, small (by rw [List.length_map, List.length_take]; omega), hN _ _ _ ⟨?_, ?_, _, rfl⟩⟩⟩
      · rw [upd_upd, et, List.map_append]; rfl
      · rw [et, List.map_append]; rfl
    · rintro ys σ H2 ⟨rfl, rfl, v, rfl⟩
      rw [List.length_map, List.take_length]
      refine ⟨l, rfl, ps.map V.ref, .inl ⟨SqL.of upd_same, fun t ht => ?_⟩⟩
      have s1 : Same H (upd H l (.lst (ps.map V.ref))) := Same.new _ hl
      have s2 : Same (upd H l (.lst (ps.map V.ref))) (upd (upd H l (.lst (ps.map V.ref))) t (.tup (ps.map V.ref))) := Same.new _ ht
      have ht0 : H t = none := s1.free ht
      have ht1 : ∀ {H' : Hp}, Same (upd (upd H l (.lst (ps.map V.ref))) t (.tup (ps.map V.ref))) H' → H' t = some (.tup (ps.map V.ref)) := fun e => e _ _ upd_same
      refine ⟨m, t, ps.map V.ref, rfl, SqT.of upd_same, g.m1, g.m24, by rw [List.length_map]; omega, ⟨_, SqT.of upd_same⟩, ?_⟩
      refine for_tupN (K := K) (xs := ps.map V.ref) (fun i σ H3 => Same (upd (upd H l (.lst (ps.map V.ref))) t (.tup (ps.map V.ref))) H3 ∧ ∃ v, σ = [some (.ref p), some (.int m), some (.ref a), some (.ref t), v]) ⟨Same.refl _, _, rfl⟩ (fun i σ H3 _ ⟨z, _⟩ => SqT.of (ht1 z)) ?_ ?_
      · rintro i x σ H3 N hN hi ⟨s3, v, rfl⟩
        have s03 := s1.trans (s2.trans s3)
        obtain ⟨q, r, rfl, h1, h2, h3⟩ := hro.get hi
        have ok := g.ok r (List.mem_of_getElem? h2)
        walk_at "rd"
        refine ⟨m, q, r, rfl, s03 _ _ h3, ok.a0, ok.a1, ok.b0, ok.b1, ok.ne, ?_⟩
        exact ⟨q, r, rfl, s03 _ _ h3, ok.t0, ok.t1, ok.u0, ok.u1, fun H4 s4 => hN _ _ ⟨s3.trans s4, _, rfl⟩⟩
      · rintro σ H3 ⟨s3, v, rfl⟩
        have s03 := s1.trans (s2.trans s3)
        walk_at "rd"
        refine ⟨m, t, ps, rs, rfl, SqT.of (ht1 s3), RoadsAt.same s03 hro, g, fun H4 s4 => ?_⟩
        have s04 := s03.trans s4
        have ntp : t ≠ p := fun z => by rw [z, hp] at ht0; cases ht0
        refine ⟨T.Web, dx, [], s04 _ _ hp, T.cl_Web, T.n_many, by decide, ?_⟩
        refine ⟨T.Web, dx, _, upd_same, T.cl_Web, T.n_roads, by show 1 < 1000; decide, ?_⟩
        rw [upd_upd]
        refine k t _ ht0 ⟨⟨dx, upd_same⟩, ?_, ?_, g⟩ fun b o hb nb => ?_
        · rw [upd_ne ntp]; exact ht1 (s3.trans s4)
        · refine Paired.imp' (fun q r hq => ?_) hro
          rw [upd_ne (ne_of hq hp (by intro z; cases z))]
          exact s04 _ _ hq
        · rw [upd_ne nb]; exact s04 _ _ hb
/-- Web(m, roads), at a call: nothing is changed, a new web stands -/
theorem mk_web (T : Txt K mg) {H : Hp} {m : Int} {c : Bool} {a : Addr} {ps : List Addr} {rs : List Road} {Q : Addr → Hp → Prop} (ha : SqX K c H a (ps.map V.ref)) (ro : RoadsAt H ps rs) (g : Good m rs)
    (k : ∀ x t H', H x = none → H t = none → Same H H' → WebAt T.Web H' x m t ps rs → Q x H') :
    ∀ x dx, H x = none → H dx = none → dx ≠ x → sp_Web___init__ T [.ref x, .int m, .ref a] (upd (upd H dx (.own x)) x (.ins T.Web dx [])) (fun v H2 => v = .non ∧ Q x H2) E0 := by
  intro x dx hx hdx ne
  have hx1 : upd H dx (.own x) x = none := by rw [upd_ne ne.symm]; exact hx
  have s0 : Same H (upd (upd H dx (.own x)) x (.ins T.Web dx [])) := (Same.new _ hdx).trans (Same.new _ hx1)
  exact ⟨x, dx, m, c, a, ps, rs, rfl, upd_same, Same.sqX s0 ha, RoadsAt.same s0 ro, g, fun t H' ht W kp => ⟨rfl, k x t H' hx (s0.free ht) (fun b o e => kp b o (s0 b o e) (ne_of_none e hx)) W⟩⟩
/-! #### _law_tolls -/
/-- the dict of the tolls of the first roads -/
def TollsOf (H : Hp) (d : Addr) (rs : List Road) (n : Nat) : Prop := ∃ kvs, H d = some (.dT kvs) ∧ (kvs.length ≤ 2 * n ∧ ∀ p ∈ kvs, ∃ a b : Int, p.1 = [.inl a, .inl b]) ∧ ∀ a b : Int, (∀ i x, i < n → rs[i]? = some x → Joins x a b → valV kvs [.inl a, .inl b] = (toll1 a b x).map V.int) ∧ ((∀ i x, i < n → rs[i]? = some x → ¬ Joins x a b) → valV kvs [.inl a, .inl b] = none)
/-- the dict of the tolls of a web -/
structure TollsAt (H : Hp) (d : Addr) (rs : List Road) : Prop where
  ex : ∃ kvs, H d = some (.dT kvs) ∧ ∀ a b : Int, valV kvs [.inl a, .inl b] = (tollOf rs a b).map V.int
  ks : ∃ kvs, H d = some (.dT kvs) ∧ kvs.length ≤ 2 * rs.length ∧ ∀ p ∈ kvs, ∃ a b : Int, p.1 = [.inl a, .inl b]
theorem TollsAt.same {H H' : Hp} {d : Addr} {rs : List Road} (e : Same H H') (h : TollsAt H d rs) : TollsAt H' d rs := by
  obtain ⟨kvs, h1, h2⟩ := h.ex
  obtain ⟨kws, h3, h4⟩ := h.ks
  exact ⟨⟨kvs, e _ _ h1, h2⟩, ⟨kws, e _ _ h3, h4⟩⟩
def sp_law_tolls (T : Txt K mg) : Sp := fun vs H Q _ => ∃ (l : Addr) (ps : List Addr) (m : Int) (rs : List Road), vs = [.ref l] ∧ H l = some (.lst (ps.map V.ref)) ∧ RoadsAt H ps rs ∧ Good m rs ∧ ∀ d H', H d = none → Same H H' → TollsAt H' d rs → Q (.ref d) H'
abbrev s_law_tolls : Stmt := top 38
theorem sc_law_tolls : FnScope ["roads", "tolls", "one", "other", "there", "back"] ["roads"] (defScope s_law_tolls) := FnScope.of (by kernel_rfl)
theorem n_law_tolls__roads : NmL (defScope s_law_tolls) "roads" := .of (by kernel_rfl)
theorem n_law_tolls__tolls : NmL (defScope s_law_tolls) "tolls" := .of (by kernel_rfl)
theorem n_law_tolls__one : NmL (defScope s_law_tolls) "one" := .of (by kernel_rfl)
theorem n_law_tolls__other : NmL (defScope s_law_tolls) "other" := .of (by kernel_rfl)
theorem n_law_tolls__there : NmL (defScope s_law_tolls) "there" := .of (by kernel_rfl)
theorem n_law_tolls__back : NmL (defScope s_law_tolls) "back" := .of (by kernel_rfl)

theorem ok_law_tolls (T : Txt K mg) (hq : Quiet (CXe P w)) {f : Addr} {fd : FuncData} (D : Df K mg "_law_tolls" s_law_tolls ["roads"] f fd) : FnOk P w K mg base (CXe P w) 1 f fd ["roads"] (sp_law_tolls T) := by
  refine D.F.okC sc_law_tolls (fun vs H Q E h => ?_) (fun cdv A outer s H vs Q E hr h => ?_)
  · obtain ⟨l, ps, m, rs, rfl, _⟩ := h
    rfl
  · obtain ⟨l, ps, m, rs, rfl, hl, ro, g, k⟩ := h
    have hu := hu_of hr
    refine ⟨_, (pss_cons (ps_set (i := 1) sc_law_tolls.nd rfl (Or.inl n_law_tolls__tolls.l) pe_dnewT) (pss_cons (ps_for PassesOwn.never rfl (pi_list (pvl 0 n_law_tolls__roads)) (pg_tup (n := 4) rfl (pgs_cons (pg_name (i := 2) sc_law_tolls.nd rfl (Or.inl n_law_tolls__one.l)) (pgs_cons (pg_name (i := 3) sc_law_tolls.nd rfl (Or.inl n_law_tolls__other.l)) (pgs_cons (pg_name (i := 4) sc_law_tolls.nd rfl (Or.inl n_law_tolls__there.l)) (pgs_cons (pg_name (i := 5) sc_law_tolls.nd rfl (Or.inl n_law_tolls__back.l)) pgs_nil))))) (pss_cons (ps_dput hu (pvl 1 n_law_tolls__tolls) (pe_tup (pa_cons (pvl 2 n_law_tolls__one) (pa_cons (pvl 3 n_law_tolls__other) pa_nil))) (pvl 4 n_law_tolls__there) rfl) (pss_one (ps_dput hu (pvl 1 n_law_tolls__tolls) (pe_tup (pa_cons (pvl 3 n_law_tolls__other) (pa_cons (pvl 2 n_law_tolls__one) pa_nil))) (pvl 5 n_law_tolls__back) rfl)))) (pss_one (ps_ret (pvl 1 n_law_tolls__tolls))))), ?_⟩
    rw [show L2.start ["roads", "tolls", "one", "other", "there", "back"] [V.ref l] = [some (V.ref l), none, none, none, none, none] from rfl]
    walk_at "rd"
    intro d hd
    have s0 := Same.new (.dT []) hd
    have hlen : ps.length = rs.length := Paired.length ro
    have glen := g.len
    have m24 := g.m24
    refine ⟨⟨_, SqL.of (s0 _ _ hl)⟩, ?_⟩
    refine for_listN (K := K) (xs := ps.map V.ref) (fun i σ H2 => Same H H2 ∧ TollsOf H2 d rs i ∧ ∃ v1 v2 v3 v4, σ = [some (V.ref l), some (V.ref d), v1, v2, v3, v4]) ⟨s0, ⟨[], upd_same, ⟨by simp, fun p hp => nomatch hp⟩, fun a b => ⟨fun i x hi => absurd hi (Nat.not_lt_zero _), fun _ => rfl⟩⟩, _, _, _, _, rfl⟩ (fun i σ H2 _ z => SqL.of (z.1 _ _ hl)) ?_ ?_
    · rintro i x σ H2 N hN hx ⟨s2, ⟨kvs, hk, ⟨hkl, hks⟩, hkv⟩, v1, v2, v3, v4, rfl⟩
      obtain ⟨q, r, rfl, h1, h2, h3⟩ := ro.get hx
      have hil : i < rs.length := (List.getElem?_eq_some_iff.mp h2).1
      have ok := g.ok r (List.mem_of_getElem? h2)
      walk_at "rd"
      refine ⟨_, SqT.of (s2 _ _ h3), rfl, _, _, rfl, _, _, rfl, _, _, rfl, _, _, rfl, rfl, ?_⟩
      refine ⟨smallE (by simp), fun p1 n1 => ⟨_, DPut.t (k := [.inl r.a, .inl r.b]) (Same.new (.tup [V.int r.a, V.int r.b]) n1 _ _ hk) upd_same (small (by omega)), smallE (by simp), fun p2 n2 => ?_⟩⟩
      have l1 := length_putK kvs [Sum.inl r.a, Sum.inl r.b] (V.int r.t)
      have np2 : d ≠ p2 := fun z => by rw [← z, upd_same] at n2; cases n2
      refine ⟨_, DPut.t (k := [.inl r.b, .inl r.a]) (by rw [upd_ne np2]; exact upd_same) upd_same (small (by omega)), hN _ _ ⟨?_, ⟨_, upd_same, ?_, ?_⟩, _, _, _, _, rfl⟩⟩
      · intro b o hb
        have nd : b ≠ d := ne_of_none hb hd
        have b2 := s2 _ _ hb
        have nb1 : b ≠ p1 := ne_of_none b2 n1
        have b3 : upd (upd H2 p1 (.tup [V.int r.a, V.int r.b])) d (.dT (putK kvs [Sum.inl r.a, Sum.inl r.b] (V.int r.t))) b = some o := by rw [upd_ne nd, upd_ne nb1]; exact b2
        rw [upd_ne nd, upd_ne (ne_of_none b3 n2)]
        exact b3
      · have l2 := length_putK (putK kvs [Sum.inl r.a, Sum.inl r.b] (V.int r.t)) [Sum.inl r.b, Sum.inl r.a] (V.int r.u)
        refine ⟨by omega, fun p hp => ?_⟩
        rcases mem_putK hp with e | ⟨q, hq, e⟩
        · exact ⟨_, _, e⟩
        rcases mem_putK hq with e' | ⟨q', hq', e'⟩
        · exact ⟨_, _, e.trans e'⟩
        · obtain ⟨a', b', e2⟩ := hks q' hq'
          exact ⟨a', b', e.trans (e'.trans e2)⟩
      · intro a' b'
        have v2 : valV (putK (putK kvs [Sum.inl r.a, Sum.inl r.b] (V.int r.t)) [Sum.inl r.b, Sum.inl r.a] (V.int r.u)) [Sum.inl a', Sum.inl b'] = if a' = r.b ∧ b' = r.a then some (V.int r.u) else if a' = r.a ∧ b' = r.b then some (V.int r.t) else valV kvs [Sum.inl a', Sum.inl b'] := by
          rw [valV_put, valV_put]
          simp
        rw [v2]
        have away : ¬ Joins r a' b' → (if a' = r.b ∧ b' = r.a then some (V.int r.u) else if a' = r.a ∧ b' = r.b then some (V.int r.t) else valV kvs [Sum.inl a', Sum.inl b']) = valV kvs [Sum.inl a', Sum.inl b'] := fun z => by
          rw [if_neg (fun w => z (.inr ⟨w.1.symm, w.2.symm⟩)), if_neg (fun w => z (.inl ⟨w.1.symm, w.2.symm⟩))]
        constructor
        · intro j x hj hy jx
          by_cases e : j = i
          · subst e
            rw [h2] at hy
            cases hy
            rcases jx with ⟨w1, w2⟩ | ⟨w1, w2⟩
            · subst w1 w2
              rw [if_neg (fun z => ok.ne z.1), if_pos ⟨rfl, rfl⟩, toll_fwd ok.ne]
              rfl
            · subst w1 w2
              rw [if_pos ⟨rfl, rfl⟩, toll_bwd ok.ne]
              rfl
          · rw [away fun w => e (pair_once g hy h2 jx w)]
            exact (hkv a' b').1 j x (by omega) hy jx
        · intro z
          rw [away (z i r (by omega) h2)]
          exact (hkv a' b').2 fun j x hj hx => z j x (by omega) hx
    · rintro σ H2 ⟨s2, ⟨kvs, hk, ⟨hkl, hks⟩, hkv⟩, v1, v2, v3, v4, rfl⟩
      rw [List.length_map, hlen] at hkv
      walk_at "rd"
      refine k d H2 hd s2 ⟨⟨kvs, hk, fun a b => ?_⟩, ⟨kvs, hk, by rw [List.length_map, hlen] at hkl; exact hkl, hks⟩⟩
      by_cases z : ∃ (i : Nat) (x : Road), rs[i]? = some x ∧ Joins x a b
      · obtain ⟨i, x, hi, j⟩ := z
        rw [(hkv a b).1 i x (List.getElem?_eq_some_iff.mp hi).1 hi j, tollOf_at g hi j]
      · rw [(hkv a b).2 fun i x _ hi j => z ⟨i, x, hi, j⟩, tollOf_no]
        · rfl
        · rintro ⟨x, hx, j⟩
          obtain ⟨i, hi⟩ := List.getElem?_of_mem hx
          exact z ⟨i, x, hi, j⟩
/-! #### _law_brought_to -/
def sp_law_brought_to (T : Txt K mg) : Sp := fun vs H Q _ => ∃ (l : Addr) (xs : List Int) (hd cell : Int), vs = [.ref l, .int hd, .int cell] ∧ H l = some (.lst (xs.map V.int)) ∧ 1 ≤ xs.length ∧ xs.length ≤ 30 ∧ (∀ x ∈ xs, 0 ≤ x) ∧
  ∀ (l' : Addr) (ys : List Int) (H' : Hp), H l' = none → Same H H' → H' l' = some (.lst (ys.map V.int)) → ys.length = xs.length → (∀ y ∈ ys, 0 ≤ y) → hd ≤ ys.sum → Q (.ref l') H'
abbrev s_law_brought_to : Stmt := top 46
theorem sc_law_brought_to : FnScope ["laying", "held", "cell", "told", "at", "k", "place"] ["laying", "held", "cell"] (defScope s_law_brought_to) := FnScope.of (by kernel_rfl)
theorem n_law_brought_to__laying : NmL (defScope s_law_brought_to) "laying" := .of (by kernel_rfl)
theorem n_law_brought_to__held : NmL (defScope s_law_brought_to) "held" := .of (by kernel_rfl)
theorem n_law_brought_to__cell : NmL (defScope s_law_brought_to) "cell" := .of (by kernel_rfl)
theorem n_law_brought_to__told : NmL (defScope s_law_brought_to) "told" := .of (by kernel_rfl)
theorem n_law_brought_to__at : NmL (defScope s_law_brought_to) "at" := .of (by kernel_rfl)
theorem n_law_brought_to__k : NmL (defScope s_law_brought_to) "k" := .of (by kernel_rfl)
theorem n_law_brought_to__place : NmL (defScope s_law_brought_to) "place" := .of (by kernel_rfl)
theorem n_law_brought_to__list : NmG (defScope s_law_brought_to) "list" := .of (by kernel_rfl)
theorem n_law_brought_to__len : NmG (defScope s_law_brought_to) "len" := .of (by kernel_rfl)
theorem n_law_brought_to__sum : NmG (defScope s_law_brought_to) "sum" := .of (by kernel_rfl)
theorem n_law_brought_to__range : NmG (defScope s_law_brought_to) "range" := .of (by kernel_rfl)
theorem n_law_brought_to__min : NmG (defScope s_law_brought_to) "min" := .of (by kernel_rfl)
theorem n_law_brought_to__max : NmG (defScope s_law_brought_to) "max" := .of (by kernel_rfl)

theorem ok_law_brought_to (T : Txt K mg) (hq : Quiet (CXe P w)) {f : Addr} {fd : FuncData} (D : Df K mg "_law_brought_to" s_law_brought_to ["laying", "held", "cell"] f fd) : FnOk P w K mg base (CXe P w) 1 f fd ["laying", "held", "cell"] (sp_law_brought_to T) := by
  refine D.F.okC sc_law_brought_to (fun vs H Q E h => ?_) (fun cdv A outer s H vs Q E hr h => ?_)
  · obtain ⟨l, xs, hd, cell, rfl, _⟩ := h
    rfl
  · obtain ⟨l, xs, hd, cell, rfl, hl, x1, x30, x0, k⟩ := h
    refine ⟨_, (pss_cons (ps_set (i := 3) sc_law_brought_to.nd rfl (Or.inl n_law_brought_to__told.l) (pe_callTy call_list_of n_law_brought_to__list.g T.list pb_list (pa_cons (pvl 0 n_law_brought_to__laying) pa_nil) (hn := n_law_brought_to__list.n) (hdb := n_law_brought_to__list.d))) (pss_cons (ps_set (i := 4) sc_law_brought_to.nd rfl (Or.inl n_law_brought_to__at.l) (pe_op op_mod (pvl 2 n_law_brought_to__cell) (pe_callB call_len_seq n_law_brought_to__len.g T.len pb_len (pa_cons (pvl 3 n_law_brought_to__told) pa_nil) (hn := n_law_brought_to__len.n) (hdb := n_law_brought_to__len.d)))) (pss_cons (ps_if (pt_cmpR op_le (pe_callB (call_sum rfl) n_law_brought_to__sum.g T.sum pb_sum (pa_cons (pvl 3 n_law_brought_to__told) pa_nil) (hn := n_law_brought_to__sum.n) (hdb := n_law_brought_to__sum.d)) (pvl 1 n_law_brought_to__held) (nomark _)) (pss_one (ps_asg (pe_op op_sub (pe_op op_add (pe_ix ix_list (pvl 3 n_law_brought_to__told) (pvl 4 n_law_brought_to__at) (fun _ _ => rfl)) (pvl 1 n_law_brought_to__held)) (pe_callB (call_sum rfl) n_law_brought_to__sum.g T.sum pb_sum (pa_cons (pvl 3 n_law_brought_to__told) pa_nil) (hn := n_law_brought_to__sum.n) (hdb := n_law_brought_to__sum.d))) (pg_sub (pvl 3 n_law_brought_to__told) (pvl 4 n_law_brought_to__at) set_list))) pss_nil) (pss_cons (ps_for PassesOwn.never rfl (pi_range1 n_law_brought_to__range.g T.range (pa_cons (pe_callB call_len_seq n_law_brought_to__len.g T.len pb_len (pa_cons (pvl 3 n_law_brought_to__told) pa_nil) (hn := n_law_brought_to__len.n) (hdb := n_law_brought_to__len.d)) pa_nil)) (pg_name (i := 5) sc_law_brought_to.nd rfl (Or.inl n_law_brought_to__k.l)) (pss_cons (ps_set (i := 6) sc_law_brought_to.nd rfl (Or.inl n_law_brought_to__place.l) (pe_op op_mod (pe_op op_add (pvl 4 n_law_brought_to__at) (pvl 5 n_law_brought_to__k)) (pe_callB call_len_seq n_law_brought_to__len.g T.len pb_len (pa_cons (pvl 3 n_law_brought_to__told) pa_nil) (hn := n_law_brought_to__len.n) (hdb := n_law_brought_to__len.d)))) (pss_one (ps_asg (pe_op op_sub (pe_ix ix_list (pvl 3 n_law_brought_to__told) (pvl 6 n_law_brought_to__place) (fun _ _ => rfl)) (pe_callB (call_min2 rfl) n_law_brought_to__min.g T.min pb_min (pa_cons (pe_ix ix_list (pvl 3 n_law_brought_to__told) (pvl 6 n_law_brought_to__place) (fun _ _ => rfl)) (pa_cons (pe_callB (call_max2 rfl) n_law_brought_to__max.g T.max pb_max (pa_cons pe_int (pa_cons (pe_op op_sub (pe_callB (call_sum rfl) n_law_brought_to__sum.g T.sum pb_sum (pa_cons (pvl 3 n_law_brought_to__told) pa_nil) (hn := n_law_brought_to__sum.n) (hdb := n_law_brought_to__sum.d)) (pvl 1 n_law_brought_to__held)) pa_nil)) (hn := n_law_brought_to__max.n) (hdb := n_law_brought_to__max.d)) pa_nil)) (hn := n_law_brought_to__min.n) (hdb := n_law_brought_to__min.d))) (pg_sub (pvl 3 n_law_brought_to__told) (pvl 6 n_law_brought_to__place) set_list))))) (pss_one (ps_ret (pvl 3 n_law_brought_to__told))))))), ?_⟩
    rw [show L2.start ["laying", "held", "cell", "told", "at", "k", "place"] [V.ref l, V.int hd, V.int cell] = [some (V.ref l), some (V.int hd), some (V.int cell), none, none, none, none] from rfl]
    refine cutS fun N1 h1 => ?_
    walk_at "rd"
    refine ⟨_, .inl (SqL.of hl), fun lt nlt => h1 _ _ (cutS fun N2 h2 => ?_)⟩
    have s1 := Same.new (.lst (xs.map V.int)) nlt
    have e1 : upd H lt (.lst (xs.map V.int)) lt = some (.lst (xs.map V.int)) := upd_same
    generalize upd H lt (.lst (xs.map V.int)) = H1 at s1 e1 ⊢
    have nl0 : H lt = none := nlt
    have xi : (0 : Int) < (xs.length : Int) := by omega
    walk_at "rd"
    refine ⟨_, .inl (SqL.of e1), by rw [List.length_map]; exact xi, h2 _ _ (cutS fun N3 h3 => ?_)⟩
    rw [List.length_map]
    have a0 := Int.emod_nonneg cell (Int.ne_of_gt xi)
    have a1 := Int.emod_lt_of_pos cell xi
    generalize cell % (xs.length : Int) = at_ at a0 a1 ⊢
    have go : ∀ (ys : List Int) (H2 : Hp), Same H H2 → H2 lt = some (.lst (ys.map V.int)) → ys.length = xs.length → (∀ y ∈ ys, 0 ≤ y) → hd ≤ ys.sum → N3 [some (V.ref l), some (V.int hd), some (V.int cell), some (V.ref lt), some (V.int at_), none, none] H2 := by
      intro ys H2 s2 e2 yl y0 ysm
      refine h3 _ _ (cutS fun N4 h4 => ?_)
      walk_at "rd"
      refine ⟨_, .inl (SqL.of e2), by rw [List.length_map]; omega, by rw [List.length_map]; omega, ?_⟩
      refine for_rangeH (fun i σ H3 => Same H H3 ∧ ∃ (zs : List Int) (v5 v6 : Option V), H3 lt = some (.lst (zs.map V.int)) ∧ zs.length = xs.length ∧ (∀ y ∈ zs, 0 ≤ y) ∧ hd ≤ zs.sum ∧ σ = [some (V.ref l), some (V.int hd), some (V.int cell), some (V.ref lt), some (V.int at_), v5, v6]) ⟨s2, ys, _, _, e2, yl, y0, ysm, rfl⟩ ?_ ?_
      · rintro i σ H3 N' CC hCC hN' hi ⟨s3, zs, v5, v6, e3, zl, z0, zsm, rfl⟩
        refine hCC _ _ (cutS fun M1 k1 => ?_)
        walk_at "rd"
        refine ⟨_, .inl (SqL.of e3), by rw [List.length_map]; omega, k1 _ _ ?_⟩
        rw [List.length_map, zl]
        have b0 := Int.emod_nonneg (at_ + (0 + (i : Int))) (Int.ne_of_gt xi)
        have b1 := Int.emod_lt_of_pos (at_ + (0 + (i : Int))) xi
        generalize (at_ + (0 + (i : Int))) % (xs.length : Int) = pl at b0 b1 ⊢
        have gx := atG (xs := zs) (i := pl) b0 (by omega)
        have g0 := getD_nn z0 pl.toNat
        walk_at "rd"
        refine ixL e3 gx (ixL e3 gx ⟨zs, .inl (SqL.of e3), _, _, ⟨rfl, rfl⟩, _, _, ⟨rfl, rfl⟩, _, rfl, ?_⟩)
        obtain ⟨z, ez, d0, d1, d2⟩ : ∃ z : Int, (if (if zs.sum - hd > 0 then zs.sum - hd else 0) < zs.getD pl.toNat 0 then (if zs.sum - hd > 0 then zs.sum - hd else 0) else zs.getD pl.toNat 0) = z ∧ 0 ≤ z ∧ z ≤ zs.getD pl.toNat 0 ∧ z ≤ zs.sum - hd := by
          refine ⟨_, rfl, ?_, ?_, ?_⟩ <;> split <;> split at * <;> omega
        rw [ez]
        refine setR e3 b0 (by rw [List.length_map]; omega) (hN' _ _ ⟨s3.put nl0 _, zs.set pl.toNat (zs.getD pl.toNat 0 - z), _, _, by rw [upd_same, ← List.map_set], by rw [List.length_set]; exact zl, set_nn z0 (by omega), ?_, rfl⟩)
        rw [sum_set _ _ _ (by omega)]
        omega
      · rintro CC σ H3 hCC ⟨s3, zs, v5, v6, e3, zl, z0, zsm, rfl⟩
        refine hCC _ _ (h4 _ _ ?_)
        walk_at "rd"
        exact k lt zs _ nl0 s3 e3 zl z0 zsm
    walk_at "rd"
    refine ⟨xs, .inl (SqL.of e1), ?_⟩
    by_cases c : xs.sum ≤ hd
    · rw [if_pos c]
      have gx := atG (xs := xs) (i := at_) a0 (by omega)
      have g0 := getD_nn x0 at_.toNat
      refine ixL e1 gx ⟨_, rfl, xs, .inl (SqL.of e1), setR e1 a0 (by rw [List.length_map]; exact a1) (go (xs.set at_.toNat (xs.getD at_.toNat 0 + hd - xs.sum)) _ (s1.put nl0 _) (by rw [upd_same, ← List.map_set]) List.length_set (set_nn x0 (by omega)) ?_)⟩
      rw [sum_set _ _ _ (by omega)]
      omega
    · rw [if_neg c]
      exact go xs H1 s1 e1 rfl x0 (by omega)
/-! #### _law_cell -/
def sp_law_cell (T : Txt K mg) : Sp := fun vs H Q _ => ∃ (a : Addr) (ns : List Int) (k : Int), vs = [.ref a, .int k] ∧ SqL K H a (ns.map V.int) ∧ 0 ≤ k ∧ ∀ v, Q (.int v) H
abbrev s_law_cell : Stmt := top 33
theorem sc_law_cell : FnScope ["script", "k"] ["script", "k"] (defScope s_law_cell) := FnScope.of (by kernel_rfl)
theorem n_law_cell__script : NmL (defScope s_law_cell) "script" := .of (by kernel_rfl)
theorem n_law_cell__k : NmL (defScope s_law_cell) "k" := .of (by kernel_rfl)
theorem n_law_cell__len : NmG (defScope s_law_cell) "len" := .of (by kernel_rfl)

theorem ok_law_cell (T : Txt K mg) (hq : Quiet (CXe P w)) {f : Addr} {fd : FuncData} (D : Df K mg "_law_cell" s_law_cell ["script", "k"] f fd) : FnOk P w K mg base (CXe P w) 1 f fd ["script", "k"] (sp_law_cell T) := by
  refine D.F.okC sc_law_cell (fun vs H Q E h => ?_) (fun cdv A outer s H vs Q E hr h => ?_)
  · obtain ⟨a, ns, i, rfl, _⟩ := h
    rfl
  · obtain ⟨a, ns, i, rfl, ha, h0, k⟩ := h
    refine ⟨_, (pss_cons (ps_if (pt_cmpR op_lt (pvl 1 n_law_cell__k) (pe_callB call_len_seq n_law_cell__len.g T.len pb_len (pa_cons (pvl 0 n_law_cell__script) pa_nil) (hn := n_law_cell__len.n) (hdb := n_law_cell__len.d)) (nomark _)) (pss_one (ps_ret (pe_ix ix_list (pvl 0 n_law_cell__script) (pvl 1 n_law_cell__k) (fun _ _ => rfl)))) pss_nil) (pss_one (ps_ret pe_int))), ?_⟩
    rw [show L2.start ["script", "k"] [V.ref a, V.int i] = [some (V.ref a), some (V.int i)] from rfl]
    walk_at "rd"
    refine ⟨_, .inl ha, ?_⟩
    rw [List.length_map]
    by_cases c : i < (ns.length : Int)
    · rw [if_pos c]
      have hi : i.toNat < ns.length := by omega
      exact ixS ha (atI_int h0 (v := .int ns[i.toNat]) (by rw [List.getElem?_map, List.getElem?_eq_getElem hi]; rfl)) (k _)
    · rw [if_neg c]
      exact k 0
/-! #### _law_down -/
def sp_law_down (T : Txt K mg) : Sp := fun vs H Q _ => ∃ (d : Addr) (rs : List Road) (m r : Int), vs = [.int m, .ref d, .int r] ∧ TollsAt H d rs ∧ Good m rs ∧ (0 ≤ r ∧ r < m) ∧
  ∃ par dep, Rooted m rs r par dep ∧ ∀ lo qs t H', H lo = none → Same H H' → H' lo = some (.lst (qs.map V.ref)) → PrsAt H' r par qs (r :: t) → Order m r par t → Q (.ref lo) H'
abbrev s_law_down : Stmt := top 39
theorem sc_law_down : FnScope ["many", "tolls", "r", "order", "at", "place", "near"] ["many", "tolls", "r"] (defScope s_law_down) := FnScope.of (by kernel_rfl)
theorem n_law_down__many : NmL (defScope s_law_down) "many" := .of (by kernel_rfl)
theorem n_law_down__tolls : NmC (defScope s_law_down) "tolls" := .of (by kernel_rfl)
theorem n_law_down__r : NmL (defScope s_law_down) "r" := .of (by kernel_rfl)
theorem n_law_down__order : NmL (defScope s_law_down) "order" := .of (by kernel_rfl)
theorem n_law_down__at : NmL (defScope s_law_down) "at" := .of (by kernel_rfl)
theorem n_law_down__place : NmC (defScope s_law_down) "place" := .of (by kernel_rfl)
theorem n_law_down__near : NmC (defScope s_law_down) "near" := .of (by kernel_rfl)
theorem n_law_down__len : NmG (defScope s_law_down) "len" := .of (by kernel_rfl)
theorem n_law_down__range : NmG (defScope s_law_down) "range" := .of (by kernel_rfl)

theorem ok_law_down (T : Txt K mg) (hq : Quiet (CXe P w)) {f : Addr} {fd : FuncData} (D : Df K mg "_law_down" s_law_down ["many", "tolls", "r"] f fd) : FnOk P w K mg base (CXe P w) 1 f fd ["many", "tolls", "r"] (sp_law_down T) := by
  refine D.F.okC sc_law_down (fun vs H Q E h => ?_) (fun cdv A outer s H vs Q E hr h => ?_)
  · obtain ⟨d, rs, m, r, rfl, _⟩ := h
    rfl
  · obtain ⟨d, rs, m, r, rfl, ta, g, rr, par, dep, R, k⟩ := h
    have hu := hu_of hr
    have m24 := g.m24
    refine ⟨_, (pss_cons (ps_set (i := 3) sc_law_down.nd rfl (Or.inl n_law_down__order.l) (pe_lst (pa_cons (pe_tup (pa_cons (pvl 2 n_law_down__r) (pa_cons pe_non pa_nil))) pa_nil))) (pss_cons (ps_set (i := 4) sc_law_down.nd rfl (Or.inl n_law_down__at.l) pe_int) (pss_cons (ps_while PassesOwn.never (pt_cmpR op_lt (pvl 4 n_law_down__at) (pe_callB call_len_seq n_law_down__len.g T.len pb_len (pa_cons (pvl 3 n_law_down__order) pa_nil) (hn := n_law_down__len.n) (hdb := n_law_down__len.d)) (nomark _)) (pss_cons (ps_asg (pe_ix ix_list (pvl 3 n_law_down__order) (pvl 4 n_law_down__at) (fun _ _ => rfl)) (pg_tup (n := 2) rfl (pgs_cons (pg_name (i := 5) sc_law_down.nd rfl (Or.inr n_law_down__place.l)) (pgs_cons (pg_name (i := 6) sc_law_down.nd rfl (Or.inr n_law_down__near.l)) pgs_nil)))) (pss_cons (ps_expr (pe_bm PySem.F.plainAttrs_list PySem.F.slot_list_extend PySem.F.type_list_extend mt_extend (pvl 3 n_law_down__order) (pa_cons (pe_comp rfl (ct_clos (Nc := ["other", "place", "near", "tolls"]) 1 [5, 6, 1] (by decide +kernel) rfl (by decide +kernel) rfl (by show ∀ (y : Str × NameKind), y ∈ _ → y.2 = NameKind.free → (defScope s_law_down).names.lookup y.1 = some NameKind.cell; decide +kernel) rfl (fun _ h => cell_has h) (fun i hi => match i, hi with | 0, _ => ⟨"place", 5, rfl, rfl, rfl, by decide +kernel⟩ | 1, _ => ⟨"near", 6, rfl, rfl, rfl, by decide +kernel⟩ | 2, _ => ⟨"tolls", 1, rfl, rfl, rfl, by decide +kernel⟩ | i + 3, hi => absurd hi (by show ¬ i + 3 < 3; omega))) (pi_range1 n_law_down__range.g T.range (pa_cons (pvl 0 n_law_down__many) pa_nil)) (fun _ _ _ _ => (pg_name (i := 0) (show (["other", "place", "near", "tolls"] : List Str).Nodup from by decide +kernel) rfl (Or.inl rfl))) (fun _ _ _ _ => (pts_one (PW.pt (pw_and (pt_cmpR op_ne (pv 0) (pv 2) (nomark _)) (pw_and1 (pt_cmp (pc_din hu (pe_tup (pa_cons (pv 1) (pa_cons (pv 0) pa_nil))) (pv 3)))))))) (fun _ _ _ _ => (pe_tup (pa_cons (pv 0) (pa_cons (pv 1) pa_nil))))) pa_nil))) (pss_one (ps_set (i := 4) sc_law_down.nd rfl (Or.inl n_law_down__at.l) (pe_op op_add (pvl 4 n_law_down__at) pe_int)))))) (pss_one (ps_ret (pvl 3 n_law_down__order)))))), ?_⟩
    rw [show L2.start ["many", "tolls", "r", "order", "at", "place", "near"] [V.int m, V.ref d, V.int r] = [some (V.int m), some (V.ref d), some (V.int r), none, none, none, none] from rfl]
    walk_at "rd"
    refine ⟨smallE (by simp), fun q0 n0 => ⟨smallE (by simp), fun lo nlo => ?_⟩⟩
    have s1 := Same.new (.tup [V.int r, V.non]) n0
    have nl0 := s1.free nlo
    have s2 := s1.trans (Same.new (.lst [V.ref q0]) nlo)
    have nql : q0 ≠ lo := fun z => by rw [← z, upd_same] at nlo; cases nlo
    have e2 : upd (upd H q0 (.tup [V.int r, V.non])) lo (.lst [V.ref q0]) lo = some (.lst [V.ref q0]) := upd_same
    have f2 : upd (upd H q0 (.tup [V.int r, V.non])) lo (.lst [V.ref q0]) q0 = some (.tup (vPr r par r)) := by
      rw [upd_ne nql, upd_same]
      unfold vPr Pb.front
      rw [if_pos rfl]
    generalize upd (upd H q0 (.tup [V.int r, V.non])) lo (.lst [V.ref q0]) = H2 at s2 e2 f2 ⊢
    have lim : ∀ {t : List Int} {ws : List Int}, AInv m rs r par t ws → (r :: t).length ≤ m.toNat := fun {t ws} J => by
      have := nodup_len (m := m) (by omega) (List.nodup_cons.mpr ⟨J.nr, J.nd⟩) fun v hv => by
        rcases List.mem_cons.mp hv with e | e
        · rw [e]; exact rr
        · exact J.rng v e
      omega
    refine while_n (fun n σ H4 => ∃ (t : List Int) (qs : List Addr) (k : Nat) (v5 v6 : Option V), n = m.toNat - k ∧ k ≤ (r :: t).length ∧ σ = [some (.int m), some (.ref d), some (.int r), some (.ref lo), some (.int (k : Nat)), v5, v6] ∧ Same H H4 ∧ H4 lo = some (.lst (qs.map V.ref)) ∧ PrsAt H4 r par qs (r :: t) ∧ Bfs m rs r par t k) m.toNat ⟨[], [q0], 0, _, _, rfl, Nat.zero_le _, rfl, s2, e2, .cons f2 .nil, Bfs.start⟩ ?_
    rintro n σ H4 NW hN hN2 ⟨t, qs, kk, v5, v6, rfl, kle, rfl, s4, ho, pa, S⟩
    have tl := lim S.J
    have ql : qs.length = (r :: t).length := Paired.length pa
    walk_at "rd"
    refine ⟨_, .inl (SqL.of ho), ?_⟩
    rw [List.length_map, ql]
    by_cases c : kk = (r :: t).length
    · rw [if_neg (by omega)]
      exact k lo qs t H4 nl0 s4 ho pa (S.done R (by omega))
    · rw [if_pos (by omega)]
      have klt : kk < (r :: t).length := by omega
      obtain ⟨p, hp⟩ : ∃ p, (r :: t)[kk]? = some p := ⟨_, List.getElem?_eq_getElem klt⟩
      have S' := S.step g R rr.1 rr.2 hp
      have tl' := lim S'.J
      have pr : 0 ≤ p ∧ p < m := by
        rcases List.mem_cons.mp (List.mem_of_getElem? hp) with e | e
        · rw [e]; exact rr
        · exact S.J.rng p e
      refine ⟨NW, fun σ' H' z => ?_, ?_⟩
      · obtain ⟨m', lt, t', qs', k', a5, a6, e1, e2, e3⟩ := hN2 _ _ z
        exact ⟨m', lt, t', qs', k', e1, e2, a5, a6, e3⟩
      obtain ⟨qx, hqx⟩ : ∃ qx, qs[kk]? = some qx := ⟨_, List.getElem?_eq_getElem (by omega)⟩
      obtain ⟨qp, pv, e1, e2, e3, e4⟩ := pa.get (i := kk) (x := .ref qx) (by rw [List.getElem?_map, hqx]; rfl)
      injection e1 with e1
      subst e1
      rw [hp] at e3
      cases e3
      refine ixL ho (atI_nat (by rw [List.getElem?_map, hqx]; rfl)) ⟨qx, rfl, _, SqT.of e4, rfl, _, _, rfl, _, _, rfl, rfl, ?_⟩
      refine ⟨tyL ho, by omega, by omega, fun pc npc => ?_⟩
      have mk : ∀ v, v ∈ kidsOf m rs (Pb.front r par p) p → (0 ≤ v ∧ v < m) ∧ v ≠ r ∧ par v = p := fun v => (mem_kids g R pr.1 pr.2).mp
      have inK : ∀ i : Nat, i < m.toNat → (tollOf rs p (i : Int)).isSome = true → V.int (i : Int) ≠ Pb.front r par p → (i : Int) ∈ kidsOf m rs (Pb.front r par p) p := fun i hi h1 h2 => by
        rw [← kidsTo_all]
        unfold kidsTo
        exact List.mem_filter.mpr ⟨List.mem_filter.mpr ⟨mem_below.mpr ⟨by omega, by omega⟩, h1⟩, decide_eq_true h2⟩
      have ktl : ∀ i : Nat, i ≤ m.toNat → (kidsTo rs (Pb.front r par p) p i).length ≤ 24 := fun i hi => by
        unfold kidsTo
        refine Nat.le_trans (List.length_filter_le _ _) (Nat.le_trans (List.length_filter_le _ _) ?_)
        rw [below_length]
        omega
      have fvs : ∀ i : Int, scal (.int i) (Pb.front r par p) = true := fun i => by
        unfold Pb.front
        by_cases z : p = r
        · rw [if_pos z]; rfl
        · rw [if_neg z]; rfl
      rw [← kidsTo_all] at S' tl'
      have nlp : lo ≠ pc := fun z => by rw [← z, ho] at npc; cases npc
      refine comp_range (fun i zs σ H5 => Same H4 H5 ∧ H5 pc = some (.lst zs) ∧ (∃ qs' : List Addr, zs = qs'.map V.ref ∧ PrsAt H5 r par qs' (kidsTo rs (Pb.front r par p) p i)) ∧ ∃ v, σ = [v, some (.int p), some (Pb.front r par p), some (.ref d)]) ⟨Same.new _ npc, upd_same, ⟨[], rfl, .nil⟩, _, rfl⟩ ?_ ?_
      · rintro i zs σ H5 N hN hi ⟨s5, hc, ⟨qs', rfl, pa'⟩, v7, rfl⟩
        rw [Int.zero_add]
        have kl := ktl i (by omega)
        have ql' : qs'.length = (kidsTo rs (Pb.front r par p) p i).length := Paired.length pa'
        walk_at "rd"
        refine ⟨fvs _, ?_⟩
        by_cases c1 : V.int (i : Int) = Pb.front r par p
        · rw [if_neg (fun z => z c1)]
          exact hN _ _ _ ⟨s5, hc, ⟨qs', rfl, by rw [kidsTo_neg (fun _ z => z c1)]; exact pa'⟩, _, rfl⟩
        · rw [if_pos c1]
          refine ⟨smallE (by simp), fun q nq => ?_⟩
          have s6 := Same.new (.tup [V.int p, V.int (i : Int)]) nq
          obtain ⟨kvs, hkv, hv⟩ := (ta.same (s4.trans s5)).ex
          have hg := DGet.t (k := [.inl p, .inl (i : Int)]) (s6 _ _ hkv) upd_same
          rw [hv] at hg
          refine ⟨_, hg, ?_⟩
          by_cases c2 : (tollOf rs p (i : Int)).isSome = true
          · rw [if_pos (by rw [Option.isSome_map]; exact c2)]
            obtain ⟨_, kr, kp⟩ := mk _ (inK i hi c2 c1)
            refine ⟨smallE (by simp), fun q' nq' => ?_⟩
            have s7 := s6.trans (Same.new (.tup [V.int (i : Int), V.int p]) nq')
            have hc7 := s7 _ _ hc
            have nqo : q' ≠ pc := fun z => by rw [z, s6 _ _ hc] at nq'; cases nq'
            refine ⟨hc7, small (by rw [List.length_map]; omega), hN _ _ _ ⟨(s5.trans s7).put npc _, upd_same, ⟨qs' ++ [q'], by rw [List.map_append]; rfl, ?_⟩, _, rfl⟩⟩
            rw [kidsTo_pos c2 c1]
            refine PrsAt.snoc ?_ (Paired.imp' (fun a b h => by rw [upd_ne (ne_of (s7 _ _ h) hc7 (by intro z; cases z))]; exact s7 _ _ h) pa')
            rw [upd_ne nqo, upd_same]
            unfold vPr Pb.front
            rw [if_neg kr, kp]
          · rw [if_neg (by rw [Option.isSome_map]; exact c2)]
            exact hN _ _ _ ⟨s5.trans s6, s6 _ _ hc, ⟨qs', rfl, by rw [kidsTo_neg (fun z => absurd z c2)]; exact PrsAt.same s6 pa'⟩, _, rfl⟩
      · rintro zs σ H5 ⟨s5, hc, ⟨qs', rfl, pa'⟩, v7, rfl⟩
        have ql' : qs'.length = (kidsTo rs (Pb.front r par p) p m.toNat).length := Paired.length pa'
        have kl := ktl m.toNat (Nat.le_refl _)
        have ho5 := s5 _ _ ho
        rw [List.length_cons] at tl klt
        refine ⟨lo, pc, _, _, rfl, rfl, ho5, hc, smallE (by rw [List.length_map, List.length_map, ql, List.length_cons]; omega), ?_⟩
        refine hN (m.toNat - (kk + 1)) _ _ (by omega) ⟨_, qs ++ qs', kk + 1, _, _, rfl, by rw [List.length_cons, List.length_append]; omega, rfl, (s4.trans s5).put nl0 _, by rw [upd_same, List.map_append], ?_, S'⟩
        have kp : ∀ a b, H5 a = some (.tup (vPr r par b)) → upd H5 lo (.lst (qs.map V.ref ++ qs'.map V.ref)) a = some (.tup (vPr r par b)) := fun a b h => by rw [upd_ne (ne_of h ho5 (by intro z; cases z))]; exact h
        exact prs_app (Paired.imp' kp pa') (Paired.imp' kp (PrsAt.same s5 pa))
/-! #### _law_fewer -/
def sp_law_fewer (T : Txt K mg) : Sp := fun vs H Q _ => ∃ (l : Addr) (xs : List Int) (cell B : Int), vs = [.ref l, .int cell] ∧ H l = some (.lst (xs.map V.int)) ∧ 1 ≤ xs.length ∧ xs.length ≤ 30 ∧ (∀ x ∈ xs, 0 ≤ x ∧ x < B) ∧ B ≤ 2 ^ 3000 ∧
  ∀ (l' : Addr) (ys : List Int) (H' : Hp), H l' = none → Same H H' → H' l' = some (.lst (ys.map V.int)) → ys.length = xs.length → (∀ y ∈ ys, 0 ≤ y ∧ y < B) → Q (.ref l') H'
abbrev s_law_fewer : Stmt := top 47
theorem sc_law_fewer : FnScope ["laying", "cell", "told", "place"] ["laying", "cell"] (defScope s_law_fewer) := FnScope.of (by kernel_rfl)
theorem n_law_fewer__laying : NmL (defScope s_law_fewer) "laying" := .of (by kernel_rfl)
theorem n_law_fewer__cell : NmL (defScope s_law_fewer) "cell" := .of (by kernel_rfl)
theorem n_law_fewer__told : NmL (defScope s_law_fewer) "told" := .of (by kernel_rfl)
theorem n_law_fewer__place : NmL (defScope s_law_fewer) "place" := .of (by kernel_rfl)
theorem n_law_fewer__list : NmG (defScope s_law_fewer) "list" := .of (by kernel_rfl)
theorem n_law_fewer__len : NmG (defScope s_law_fewer) "len" := .of (by kernel_rfl)
theorem n_law_fewer__min : NmG (defScope s_law_fewer) "min" := .of (by kernel_rfl)

theorem ok_law_fewer (T : Txt K mg) (hq : Quiet (CXe P w)) {f : Addr} {fd : FuncData} (D : Df K mg "_law_fewer" s_law_fewer ["laying", "cell"] f fd) : FnOk P w K mg base (CXe P w) 1 f fd ["laying", "cell"] (sp_law_fewer T) := by
  refine D.F.okC sc_law_fewer (fun vs H Q E h => ?_) (fun cdv A outer s H vs Q E hr h => ?_)
  · obtain ⟨l, xs, cell, B, rfl, _⟩ := h
    rfl
  · obtain ⟨l, xs, cell, B, rfl, hl, x1, x30, x0, hB, k⟩ := h
    refine ⟨_, (pss_cons (ps_set (i := 2) sc_law_fewer.nd rfl (Or.inl n_law_fewer__told.l) (pe_callTy call_list_of n_law_fewer__list.g T.list pb_list (pa_cons (pvl 0 n_law_fewer__laying) pa_nil) (hn := n_law_fewer__list.n) (hdb := n_law_fewer__list.d))) (pss_cons (ps_set (i := 3) sc_law_fewer.nd rfl (Or.inl n_law_fewer__place.l) (pe_op op_mod (pvl 1 n_law_fewer__cell) (pe_callB call_len_seq n_law_fewer__len.g T.len pb_len (pa_cons (pvl 2 n_law_fewer__told) pa_nil) (hn := n_law_fewer__len.n) (hdb := n_law_fewer__len.d)))) (pss_cons (ps_asg (pe_op op_sub (pe_ix ix_list (pvl 2 n_law_fewer__told) (pvl 3 n_law_fewer__place) (fun _ _ => rfl)) (pe_ix ix_list (pe_lst (pa_cons pe_int (pa_cons (pe_callB (call_min2 rfl) n_law_fewer__min.g T.min pb_min (pa_cons pe_int (pa_cons (pe_ix ix_list (pvl 2 n_law_fewer__told) (pvl 3 n_law_fewer__place) (fun _ _ => rfl)) pa_nil)) (hn := n_law_fewer__min.n) (hdb := n_law_fewer__min.d)) (pa_cons (pe_op op_mod (pe_op op_fdiv (pvl 1 n_law_fewer__cell) pe_int) (pe_op op_add (pe_ix ix_list (pvl 2 n_law_fewer__told) (pvl 3 n_law_fewer__place) (fun _ _ => rfl)) pe_int)) pa_nil)))) (pe_op op_mod (pe_op op_fdiv (pvl 1 n_law_fewer__cell) pe_int) pe_int) (fun _ _ => rfl))) (pg_sub (pvl 2 n_law_fewer__told) (pvl 3 n_law_fewer__place) set_list)) (pss_one (ps_ret (pvl 2 n_law_fewer__told)))))), ?_⟩
    rw [show L2.start ["laying", "cell", "told", "place"] [V.ref l, V.int cell] = [some (V.ref l), some (V.int cell), none, none] from rfl]
    refine cutS fun N1 h1 => ?_
    walk_at "rd"
    refine ⟨_, .inl (SqL.of hl), fun lt nlt => h1 _ _ (cutS fun N2 h2 => ?_)⟩
    have s1 := Same.new (.lst (xs.map V.int)) nlt
    have e1 : upd H lt (.lst (xs.map V.int)) lt = some (.lst (xs.map V.int)) := upd_same
    generalize upd H lt (.lst (xs.map V.int)) = H1 at s1 e1 ⊢
    have xi : (0 : Int) < (xs.length : Int) := by omega
    walk_at "rd"
    refine ⟨_, .inl (SqL.of e1), by rw [List.length_map]; exact xi, h2 _ _ (cutS fun N3 h3 => ?_)⟩
    rw [List.length_map]
    have a0 := Int.emod_nonneg cell (Int.ne_of_gt xi)
    have a1 := Int.emod_lt_of_pos cell xi
    generalize cell % (xs.length : Int) = at_ at a0 a1 ⊢
    have nl0 : H lt = none := nlt
    have gx := atG (xs := xs) (i := at_) a0 (by omega)
    have g0 : 0 ≤ xs.getD at_.toNat 0 ∧ xs.getD at_.toNat 0 < B := x0 _ (getD_in (by omega))
    walk_at "rd"
    refine ixL e1 gx (ixL e1 gx ⟨_, _, ⟨rfl, rfl⟩, ⟨by decide, by decide⟩, ixL e1 gx ⟨_, rfl, by omega, smallE (by simp), fun p np => ⟨⟨by decide, by decide⟩, by decide, ?_⟩⟩⟩)
    generalize xs.getD at_.toNat 0 = X at g0 ⊢
    have q0 := Int.emod_nonneg (cell / 240) (show X + 1 ≠ 0 by omega)
    have q1 := Int.emod_lt_of_pos (cell / 240) (show 0 < X + 1 by omega)
    generalize cell / 240 % (X + 1) = Y at q0 q1 ⊢
    obtain ⟨z, ez, z0, z1⟩ : ∃ z : Int, atI [V.int 0, V.int (if X < 1 then X else 1), V.int Y] (cell / 80 % 3) = some (.int z) ∧ 0 ≤ z ∧ z ≤ X := by
      generalize cell / 80 = c80
      rcases (show c80 % 3 = 0 ∨ c80 % 3 = 1 ∨ c80 % 3 = 2 by omega) with z | z | z <;> rw [z]
      · exact ⟨0, rfl, by omega, by omega⟩
      · refine ⟨if X < 1 then X else 1, rfl, ?_, ?_⟩ <;> split <;> omega
      · exact ⟨Y, rfl, q0, by omega⟩
    have s2 := Same.new (.lst [V.int 0, V.int (if X < 1 then X else 1), V.int Y]) np
    refine ixL upd_same ez ⟨_, rfl, _, rfl, setR (s2 _ _ e1) a0 (by rw [List.length_map]; exact a1) (h3 _ _ ?_)⟩
    walk_at "rd"
    refine k lt (xs.set at_.toNat (X - z)) _ nl0 ((s1.trans s2).put nl0 _) (by rw [upd_same, ← List.map_set]) List.length_set ?_
    intro y hy
    rcases List.mem_or_eq_of_mem_set hy with hy | rfl
    · exact x0 y hy
    · omega
/-! #### _law_load -/
def sp_law_load (T : Txt K mg) : Sp := fun vs H Q _ => ∃ (dt lo la : Addr) (c : Bool) (qs : List Addr) (rs : List Road) (t xs : List Int) (m r : Int) (par : Int → Int) (dep : Int → Nat), vs = [.ref dt, .ref lo, .ref la] ∧ TollsAt H dt rs ∧ Good m rs ∧ Rooted m rs r par dep ∧ H lo = some (.lst (qs.map V.ref)) ∧ PrsAt H r par qs (r :: t) ∧ Order m r par t ∧ SqX K c H la (xs.map V.int) ∧ (xs.length : Int) = m ∧
  ∀ l H', H l = none → Same H H' → H' l = some (.lst ((gatL m rs r par dep (fun v => xs.getD v.toNat 0) (giv rs par)).map V.int)) → Q (.ref l) H'
abbrev s_law_load : Stmt := top 42
theorem sc_law_load : FnScope ["tolls", "order", "laying", "have", "place", "near"] ["tolls", "order", "laying"] (defScope s_law_load) := FnScope.of (by kernel_rfl)
theorem n_law_load__tolls : NmL (defScope s_law_load) "tolls" := .of (by kernel_rfl)
theorem n_law_load__order : NmL (defScope s_law_load) "order" := .of (by kernel_rfl)
theorem n_law_load__laying : NmL (defScope s_law_load) "laying" := .of (by kernel_rfl)
theorem n_law_load__have : NmL (defScope s_law_load) "have" := .of (by kernel_rfl)
theorem n_law_load__place : NmL (defScope s_law_load) "place" := .of (by kernel_rfl)
theorem n_law_load__near : NmL (defScope s_law_load) "near" := .of (by kernel_rfl)
theorem n_law_load__list : NmG (defScope s_law_load) "list" := .of (by kernel_rfl)
theorem n_law_load__reversed : NmG (defScope s_law_load) "reversed" := .of (by kernel_rfl)

theorem ok_law_load (T : Txt K mg) (hq : Quiet (CXe P w)) {f : Addr} {fd : FuncData} (D : Df K mg "_law_load" s_law_load ["tolls", "order", "laying"] f fd) : FnOk P w K mg base (CXe P w) 1 f fd ["tolls", "order", "laying"] (sp_law_load T) := by
  refine D.F.okC sc_law_load (fun vs H Q E h => ?_) (fun cdv A outer s H vs Q E hr h => ?_)
  · obtain ⟨dt, lo, la, c, qs, rs, t, xs, m, r, par, dep, rfl, _⟩ := h
    rfl
  · obtain ⟨dt, lo, la, c, qs, rs, t, xs, m, r, par, dep, rfl, ta, g, R, ho, pa, O, ha, xl, k⟩ := h
    have m1 := g.m1
    have m24 := g.m24
    have hu := hu_of hr
    have ql : qs.length = (r :: t).length := Paired.length pa
    rw [List.length_cons] at ql
    have lx : SqL K H la (xs.map V.int) ∨ SqT K H la (xs.map V.int) := by
      cases c
      · exact .inr ha
      · exact .inl ha
    refine ⟨_, (pss_cons (ps_set (i := 3) sc_law_load.nd rfl (Or.inl n_law_load__have.l) (pe_callTy call_list_of n_law_load__list.g T.list pb_list (pa_cons (pvl 2 n_law_load__laying) pa_nil) (hn := n_law_load__list.n) (hdb := n_law_load__list.d))) (pss_cons (ps_for PassesOwn.never rfl (pi_rev n_law_load__reversed.g T.reversed (pvl 1 n_law_load__order)) (pg_tup (n := 2) rfl (pgs_cons (pg_name (i := 4) sc_law_load.nd rfl (Or.inl n_law_load__place.l)) (pgs_cons (pg_name (i := 5) sc_law_load.nd rfl (Or.inl n_law_load__near.l)) pgs_nil))) (pss_one (ps_if (pt_cmp (pc_notN (pvl 5 n_law_load__near))) (pss_one (ps_asg (pe_op op_add (pe_ix ix_list (pvl 3 n_law_load__have) (pvl 5 n_law_load__near) (fun _ _ => rfl)) (pe_op op_fdiv (pe_ix ix_list (pvl 3 n_law_load__have) (pvl 4 n_law_load__place) (fun _ _ => rfl)) (pe_dget hu (pvl 0 n_law_load__tolls) (pe_tup (pa_cons (pvl 4 n_law_load__place) (pa_cons (pvl 5 n_law_load__near) pa_nil))) (fun _ _ => rfl)))) (pg_sub (pvl 3 n_law_load__have) (pvl 5 n_law_load__near) set_list))) pss_nil))) (pss_one (ps_ret (pvl 3 n_law_load__have))))), ?_⟩
    rw [show L2.start ["tolls", "order", "laying", "have", "place", "near"] [V.ref dt, V.ref lo, V.ref la] = [some (V.ref dt), some (V.ref lo), some (V.ref la), none, none, none] from rfl]
    walk_at "rd"
    refine ⟨_, lx, fun l nl => ?_⟩
    have s1 := Same.new (.lst (xs.map V.int)) nl
    have e1 : upd H l (.lst (xs.map V.int)) l = some (.lst (xs.map V.int)) := upd_same
    generalize upd H l (.lst (xs.map V.int)) = H1 at s1 e1 ⊢
    refine ⟨_, SqL.of (s1 _ _ ho), ?_⟩
    refine for_revN (K := K) (xs := qs.map V.ref) (fun i σ H5 => Same H H5 ∧ ∃ (cs : List Int) (v6 v7 : Option V), H5 l = some (.lst (cs.map V.int)) ∧ Sofar m rs r par dep (fun v => xs.getD v.toNat 0) (giv rs par) (t.drop (t.length - i)) cs ∧ σ = [some (V.ref dt), some (V.ref lo), some (V.ref la), some (V.ref l), v6, v7]) ⟨s1, xs, _, _, e1, by rw [Nat.sub_zero, List.drop_length]; exact Sofar.nil xl, rfl⟩ (fun i σ H5 _ z => SqL.of (z.1 _ _ ho)) ?_ ?_
    · rintro i x σ H5 N hN hx ⟨s5, cs, v6, v7, c5, so, rfl⟩
      have il := (List.getElem?_eq_some_iff.mp hx).1
      rw [List.length_reverse, List.length_map, ql] at il
      rw [List.getElem?_reverse (by rw [List.length_map, ql]; omega), List.length_map, ql] at hx
      obtain ⟨q, v, rfl, hq, hv, e5⟩ := pa.get hx
      have hv' : (r :: t).reverse[i]? = some v := by rw [List.getElem?_reverse (by rw [List.length_cons]; omega), List.length_cons]; exact hv
      rw [List.reverse_cons] at hv'
      have cl := so.len
      walk_at "rd"
      refine ⟨_, SqT.of (s5 _ _ e5), rfl, _, _, rfl, _, _, rfl, rfl, ?_⟩
      walk_at "rd"
      by_cases ci : i < t.length
      · rw [List.getElem?_append_left (by rw [List.length_reverse]; exact ci)] at hv'
        obtain ⟨⟨vr, vn⟩, ev, so'⟩ := O.turn g R so hv'
        have u := R.up v vr.1 vr.2 vn
        obtain ⟨kd, hd, d0, d1⟩ := toll_up g R vr.1 vr.2 vn
        have fv : Pb.front r par v = V.int (par v) := by unfold Pb.front; rw [if_neg vn]
        rw [fv]
        have nn : ¬ V.int (par v) = V.non := by intro z; cases z
        rw [if_pos nn]
        refine ixL c5 (atG u.1.1 (by omega)) (ixL c5 (atG vr.1 (by omega)) ⟨smallE (by simp), fun q' nq' => ?_⟩)
        have s6 := Same.new (.tup [V.int v, V.int (par v)]) nq'
        have get : DGet (upd H5 q' (.tup [V.int v, V.int (par v)])) dt (V.ref q') (some (V.int kd)) := by
          obtain ⟨kvs, hkv, hv2⟩ := (ta.same s5).ex
          have hg := DGet.t (k := [.inl v, .inl (par v)]) (s6 _ _ hkv) upd_same
          rw [hv2, hd] at hg
          exact hg
        have c6 := s6 _ _ c5
        refine ⟨_, get, _, rfl, _, rfl, ⟨by omega, by omega⟩, _, rfl, setR c6 u.1.1 (by rw [List.length_map]; omega) (hN _ _ ⟨(s5.trans s6).put nl _, gstep par (giv rs par) cs v, _, _, ?_, so', rfl⟩)⟩
        rw [upd_same, ← List.map_set]
        unfold gstep giv
        rw [hd]
        rfl
      · have ei : i = t.reverse.length := by rw [List.length_reverse]; omega
        rw [ei, List.getElem?_append_right (Nat.le_refl _), Nat.sub_self] at hv'
        cases hv'
        have fv : Pb.front r par r = V.non := by unfold Pb.front; rw [if_pos rfl]
        rw [fv, if_neg (fun z => z rfl)]
        refine hN _ _ ⟨s5, cs, _, _, c5, ?_, rfl⟩
        rw [List.length_reverse] at ei
        rw [show t.length - (i + 1) = t.length - i by omega]
        exact so
    · rintro σ H5 ⟨s5, cs, v6, v7, c5, so, rfl⟩
      rw [List.length_map, ql, show t.length - (t.length + 1) = 0 by omega, List.drop_zero] at so
      rw [O.done g R so] at c5
      walk_at "rd"
      exact k l H5 nl s5 c5
/-! #### _law_mixed -/
theorem mixed_ok (c k : Int) (k0 : 0 ≤ k) (k1 : k ≤ 1000) : ∃ a b d : Int, (c % 998244353 + 7919 * k + 11) * 48271 % 2147483647 = a ∧ a * a % 2147483629 = b ∧ (b + 104729 * k + 7) * b % 1000000007 = d ∧ CMul 7919 k ∧ CMul (c % 998244353 + 7919 * k + 11) 48271 ∧ CMul a a ∧ CMul 104729 k ∧ CMul (b + 104729 * k + 7) b ∧ CMul d 16807 ∧ 0 ≤ d * 16807 % 2147483647 / 8 ∧ d * 16807 % 2147483647 / 8 ≤ 2147483647 := by
  have em : ∀ (x n : Int), 0 < n → 0 ≤ x % n ∧ x % n < n := fun x n h => ⟨Int.emod_nonneg x (Int.ne_of_gt h), Int.emod_lt_of_pos x h⟩
  refine ⟨_, _, _, rfl, rfl, rfl, ?_⟩
  have h1 := em ((c % 998244353 + 7919 * k + 11) * 48271) 2147483647 (by decide)
  generalize (c % 998244353 + 7919 * k + 11) * 48271 % 2147483647 = a at h1 ⊢
  have h2 := em (a * a) 2147483629 (by decide)
  generalize a * a % 2147483629 = b at h2 ⊢
  have h3 := em ((b + 104729 * k + 7) * b) 1000000007 (by decide)
  generalize (b + 104729 * k + 7) * b % 1000000007 = d at h3 ⊢
  have h4 := em (d * 16807) 2147483647 (by decide)
  exact ⟨.inl ⟨by decide, by decide⟩, .inr ⟨by decide, by decide⟩, .inl ⟨by omega, by omega⟩, .inl ⟨by decide, by decide⟩, .inr ⟨by omega, by omega⟩, .inr ⟨by decide, by decide⟩, by omega, by omega⟩
def sp_law_mixed (T : Txt K mg) : Sp := fun vs H Q _ => ∃ (c k : Int), vs = [.int c, .int k] ∧ 0 ≤ k ∧ k ≤ 1000 ∧ ∀ v, 0 ≤ v → v ≤ 2147483647 → Q (.int v) H
abbrev s_law_mixed : Stmt := top 34
theorem sc_law_mixed : FnScope ["cell", "k", "m"] ["cell", "k"] (defScope s_law_mixed) := FnScope.of (by kernel_rfl)
theorem n_law_mixed__cell : NmL (defScope s_law_mixed) "cell" := .of (by kernel_rfl)
theorem n_law_mixed__k : NmL (defScope s_law_mixed) "k" := .of (by kernel_rfl)
theorem n_law_mixed__m : NmL (defScope s_law_mixed) "m" := .of (by kernel_rfl)

theorem ok_law_mixed (T : Txt K mg) (hq : Quiet (CXe P w)) {f : Addr} {fd : FuncData} (D : Df K mg "_law_mixed" s_law_mixed ["cell", "k"] f fd) : FnOk P w K mg base (CXe P w) 1 f fd ["cell", "k"] (sp_law_mixed T) := by
  refine D.F.okC sc_law_mixed (fun vs H Q E h => ?_) (fun cdv A outer s H vs Q E hr h => ?_)
  · obtain ⟨c, i, rfl, _⟩ := h
    rfl
  · obtain ⟨c, i, rfl, i0, i1, k⟩ := h
    obtain ⟨a, b, d, e1, e2, e3, h1, h2, h3, h4, h5, h6, h7, h8⟩ := mixed_ok c i i0 i1
    refine ⟨_, (pss_cons (ps_set (i := 2) sc_law_mixed.nd rfl (Or.inl n_law_mixed__m.l) (pe_op op_mod (pe_op op_mul (pe_op op_add (pe_op op_add (pe_op op_mod (pvl 0 n_law_mixed__cell) pe_int) (pe_op op_mul pe_int (pvl 1 n_law_mixed__k))) pe_int) pe_int) pe_int)) (pss_cons (ps_set (i := 2) sc_law_mixed.nd rfl (Or.inl n_law_mixed__m.l) (pe_op op_mod (pe_op op_mul (pvl 2 n_law_mixed__m) (pvl 2 n_law_mixed__m)) pe_int)) (pss_cons (ps_set (i := 2) sc_law_mixed.nd rfl (Or.inl n_law_mixed__m.l) (pe_op op_mod (pe_op op_mul (pe_op op_add (pe_op op_add (pvl 2 n_law_mixed__m) (pe_op op_mul pe_int (pvl 1 n_law_mixed__k))) pe_int) (pvl 2 n_law_mixed__m)) pe_int)) (pss_one (ps_ret (pe_op op_fdiv (pe_op op_mod (pe_op op_mul (pvl 2 n_law_mixed__m) pe_int) pe_int) pe_int)))))), ?_⟩
    rw [show L2.start ["cell", "k", "m"] [V.int c, V.int i] = [some (V.int c), some (V.int i), none] from rfl]
    walk_at "rd"
    rw [e1, e2, e3]
    exact ⟨by decide, h1, h2, by decide, h3, by decide, h4, h5, by decide, h6, by decide, ⟨by decide, by decide⟩, k _ h7 h8⟩
/-! #### _law_numbers -/
def sp_law_numbers (T : Txt K mg) : Sp := fun vs H Q _ => ∃ (a : Addr) (ns : List Int) (m : Int), vs = [.ref a, .int m] ∧ SqL K H a (ns.map V.int) ∧ 0 ≤ m ∧ m ≤ 800 ∧ ∀ (l : Addr) (xs : List Int) (H' : Hp), H l = none → Same H H' → H' l = some (.lst (xs.map V.int)) → (xs.length : Int) = m → Q (.ref l) H'
abbrev s_law_numbers : Stmt := top 35
theorem sc_law_numbers : FnScope ["script", "many", "rest", "numbers", "k"] ["script", "many"] (defScope s_law_numbers) := FnScope.of (by kernel_rfl)
theorem n_law_numbers__script : NmL (defScope s_law_numbers) "script" := .of (by kernel_rfl)
theorem n_law_numbers__many : NmL (defScope s_law_numbers) "many" := .of (by kernel_rfl)
theorem n_law_numbers__rest : NmL (defScope s_law_numbers) "rest" := .of (by kernel_rfl)
theorem n_law_numbers__numbers : NmL (defScope s_law_numbers) "numbers" := .of (by kernel_rfl)
theorem n_law_numbers__k : NmL (defScope s_law_numbers) "k" := .of (by kernel_rfl)
theorem n_law_numbers__law_cell : NmG (defScope s_law_numbers) "_law_cell" := .of (by kernel_rfl)
theorem n_law_numbers__range : NmG (defScope s_law_numbers) "range" := .of (by kernel_rfl)
theorem n_law_numbers__law_mixed : NmG (defScope s_law_numbers) "_law_mixed" := .of (by kernel_rfl)

theorem ok_law_numbers (T : Txt K mg) (hq : Quiet (CXe P w)) {f : Addr} {fd : FuncData} (D : Df K mg "_law_numbers" s_law_numbers ["script", "many"] f fd) {f_law_cell : Addr} {fd_law_cell : FuncData} (D_law_cell : Df K mg "_law_cell" s_law_cell ["script", "k"] f_law_cell fd_law_cell) (G_law_cell : FnOk P w K mg base (CXe P w) 1 f_law_cell fd_law_cell ["script", "k"] (sp_law_cell T)) {f_law_mixed : Addr} {fd_law_mixed : FuncData} (D_law_mixed : Df K mg "_law_mixed" s_law_mixed ["cell", "k"] f_law_mixed fd_law_mixed) (G_law_mixed : FnOk P w K mg base (CXe P w) 1 f_law_mixed fd_law_mixed ["cell", "k"] (sp_law_mixed T)) : FnOk P w K mg base (CXe P w) 2 f fd ["script", "many"] (sp_law_numbers T) := by
  refine D.F.okC sc_law_numbers (fun vs H Q E h => ?_) (fun cdv A outer s H vs Q E hr h => ?_)
  · obtain ⟨a, ns, m, rfl, _⟩ := h
    rfl
  · obtain ⟨a, ns, m, rfl, ha, m0, m1, k⟩ := h
    refine ⟨_, (pss_cons (ps_set (i := 2) sc_law_numbers.nd rfl (Or.inl n_law_numbers__rest.l) (pe_call G_law_cell (hr.mono (by decide)) n_law_numbers__law_cell.g D_law_cell.m D_law_cell.F.kp D_law_cell.b .nil (passQ hq) (pa_cons (pvl 0 n_law_numbers__script) (pa_cons pe_int pa_nil)) (hdb := n_law_numbers__law_cell.d))) (pss_cons (ps_set (i := 3) sc_law_numbers.nd rfl (Or.inl n_law_numbers__numbers.l) (pe_lst pa_nil)) (pss_cons (ps_for PassesOwn.never rfl (pi_range1 n_law_numbers__range.g T.range (pa_cons (pvl 1 n_law_numbers__many) pa_nil)) (pg_name (i := 4) sc_law_numbers.nd rfl (Or.inl n_law_numbers__k.l)) (pss_one (ps_if (pt_cmpR op_eq (pe_op op_mod (pe_call G_law_cell (hr.mono (by decide)) n_law_numbers__law_cell.g D_law_cell.m D_law_cell.F.kp D_law_cell.b .nil (passQ hq) (pa_cons (pvl 0 n_law_numbers__script) (pa_cons pe_int pa_nil)) (hdb := n_law_numbers__law_cell.d)) pe_int) pe_int (nomark _)) (pss_cons (ps_expr (pe_bm PySem.F.plainAttrs_list PySem.F.slot_list_append PySem.F.type_list_append mt_append (pvl 3 n_law_numbers__numbers) (pa_cons (pe_op op_mod (pvl 2 n_law_numbers__rest) (pe_op op_pow pe_int pe_int)) pa_nil))) (pss_one (ps_set (i := 2) sc_law_numbers.nd rfl (Or.inl n_law_numbers__rest.l) (pe_op op_fdivL (pvl 2 n_law_numbers__rest) (pe_op op_pow pe_int pe_int))))) (pss_one (ps_expr (pe_bm PySem.F.plainAttrs_list PySem.F.slot_list_append PySem.F.type_list_append mt_append (pvl 3 n_law_numbers__numbers) (pa_cons (pe_op op_add (pe_op op_mul (pe_call G_law_mixed (hr.mono (by decide)) n_law_numbers__law_mixed.g D_law_mixed.m D_law_mixed.F.kp D_law_mixed.b .nil (passQ hq) (pa_cons (pvl 2 n_law_numbers__rest) (pa_cons (pvl 4 n_law_numbers__k) pa_nil)) (hdb := n_law_numbers__law_mixed.d)) pe_int) (pe_call G_law_mixed (hr.mono (by decide)) n_law_numbers__law_mixed.g D_law_mixed.m D_law_mixed.F.kp D_law_mixed.b .nil (passQ hq) (pa_cons (pvl 2 n_law_numbers__rest) (pa_cons (pe_op op_add (pvl 4 n_law_numbers__k) pe_int) pa_nil)) (hdb := n_law_numbers__law_mixed.d))) pa_nil))))))) (pss_one (ps_ret (pvl 3 n_law_numbers__numbers)))))), ?_⟩
    rw [show L2.start ["script", "many", "rest", "numbers", "k"] [V.ref a, V.int m] = [some (V.ref a), some (V.int m), none, none, none] from rfl]
    walk_at "rd"
    refine ⟨a, ns, 1, rfl, ha, by decide, fun rest => ⟨by decide, fun l nl => ⟨by omega, by omega, ?_⟩⟩⟩
    refine for_rangeN (fun i σ H2 => Same H H2 ∧ ∃ (rest : Int) (xs : List Int) (v4 : Option V), H2 l = some (.lst (xs.map V.int)) ∧ xs.length = i ∧ σ = [some (.ref a), some (.int m), some (.int rest), some (.ref l), v4]) ⟨Same.new _ nl, rest, [], _, upd_same, rfl, rfl⟩ ?_ ?_
    · rintro i σ H2 N hN hi ⟨s2, rest, xs, v4, e2, xl, rfl⟩
      rw [Int.zero_add]
      have sa := Same.seq s2 ha
      have add2 : ∀ (z rest : Int), N [some (V.ref a), some (V.int m), some (V.int rest), some (V.ref l), some (V.int (i : Int))] (upd H2 l (.lst (xs.map V.int ++ [V.int z]))) := fun z rest =>
        hN _ _ ⟨s2.put nl _, rest, xs ++ [z], _, by rw [upd_same, List.map_append]; rfl, by rw [List.length_append, xl]; rfl, rfl⟩
      walk_at "rd"
      refine ⟨a, ns, 0, rfl, sa, by decide, fun c => ⟨c, rfl, by decide, ?_⟩⟩
      have p20 : CPow 10 20 := ⟨by decide, by decide, by decide⟩
      by_cases z : c % 2 = 0
      · rw [if_pos z]
        exact ⟨tyL e2, p20, by decide +kernel, appR e2 (small (by rw [List.length_map]; omega)) ⟨p20, ⟨by decide +kernel, by decide +kernel⟩, add2 _ _⟩⟩
      · rw [if_neg z]
        exact ⟨tyL e2, rest, (i : Int), rfl, by omega, by omega, fun x x0 x1 => ⟨x, rfl, .inr ⟨by decide, by decide⟩, rest, (i : Int) + 100, rfl, by omega, by omega, fun y _ _ => ⟨y, rfl, appR e2 (small (by rw [List.length_map]; omega)) (add2 _ _)⟩⟩⟩
    · rintro σ H2 ⟨s2, rest, xs, v4, e2, xl, rfl⟩
      walk_at "rd"
      exact k l xs H2 nl s2 e2 (by omega)
/-! #### _law_parted -/
def sp_law_parted (T : Txt K mg) : Sp := fun vs H Q _ => ∃ (hd m cell : Int), vs = [.int hd, .int m, .int cell] ∧ 0 ≤ hd ∧ hd < 2 ^ 3000 ∧ 1 ≤ m ∧ m ≤ 24 ∧
  ∀ (l : Addr) (xs : List Int) (H' : Hp), H l = none → Same H H' → H' l = some (.lst (xs.map V.int)) → (xs.length : Int) = m → (∀ x ∈ xs, 0 ≤ x ∧ x ≤ hd) → xs.sum = hd → Q (.ref l) H'
abbrev s_law_parted : Stmt := top 45
theorem sc_law_parted : FnScope ["held", "many", "cell", "laying", "rest", "left", "k", "part"] ["held", "many", "cell"] (defScope s_law_parted) := FnScope.of (by kernel_rfl)
theorem n_law_parted__held : NmL (defScope s_law_parted) "held" := .of (by kernel_rfl)
theorem n_law_parted__many : NmL (defScope s_law_parted) "many" := .of (by kernel_rfl)
theorem n_law_parted__cell : NmL (defScope s_law_parted) "cell" := .of (by kernel_rfl)
theorem n_law_parted__laying : NmL (defScope s_law_parted) "laying" := .of (by kernel_rfl)
theorem n_law_parted__rest : NmL (defScope s_law_parted) "rest" := .of (by kernel_rfl)
theorem n_law_parted__left : NmL (defScope s_law_parted) "left" := .of (by kernel_rfl)
theorem n_law_parted__k : NmL (defScope s_law_parted) "k" := .of (by kernel_rfl)
theorem n_law_parted__part : NmL (defScope s_law_parted) "part" := .of (by kernel_rfl)
theorem n_law_parted__range : NmG (defScope s_law_parted) "range" := .of (by kernel_rfl)
theorem n_law_parted__min : NmG (defScope s_law_parted) "min" := .of (by kernel_rfl)

theorem ok_law_parted (T : Txt K mg) (hq : Quiet (CXe P w)) {f : Addr} {fd : FuncData} (D : Df K mg "_law_parted" s_law_parted ["held", "many", "cell"] f fd) : FnOk P w K mg base (CXe P w) 1 f fd ["held", "many", "cell"] (sp_law_parted T) := by
  refine D.F.okC sc_law_parted (fun vs H Q E h => ?_) (fun cdv A outer s H vs Q E hr h => ?_)
  · obtain ⟨hd, m, cell, rfl, _⟩ := h
    rfl
  · obtain ⟨hd, m, cell, rfl, hd0, hd1, m1, m24, k⟩ := h
    refine ⟨_, (pss_cons (ps_set (i := 3) sc_law_parted.nd rfl (Or.inl n_law_parted__laying.l) (pe_op op_rep (pe_lst (pa_cons pe_int pa_nil)) (pvl 1 n_law_parted__many))) (pss_cons (ps_set (i := 4) sc_law_parted.nd rfl (Or.inl n_law_parted__rest.l) (pe_op op_fdiv (pvl 2 n_law_parted__cell) pe_int)) (pss_cons (ps_set (i := 5) sc_law_parted.nd rfl (Or.inl n_law_parted__left.l) (pvl 0 n_law_parted__held)) (pss_cons (ps_for PassesOwn.never rfl (pi_range1 n_law_parted__range.g T.range (pa_cons (pe_op op_sub (pvl 1 n_law_parted__many) pe_int) pa_nil)) (pg_name (i := 6) sc_law_parted.nd rfl (Or.inl n_law_parted__k.l)) (pss_cons (ps_if (pt_cmpR op_eq (pe_op op_mod (pvl 2 n_law_parted__cell) pe_int) pe_int (nomark _)) (pss_cons (ps_set (i := 7) sc_law_parted.nd rfl (Or.inl n_law_parted__part.l) (pe_op op_mod (pvl 4 n_law_parted__rest) (pe_op op_add (pvl 5 n_law_parted__left) pe_int))) (pss_one (ps_set (i := 4) sc_law_parted.nd rfl (Or.inl n_law_parted__rest.l) (pe_op op_fdivL (pvl 4 n_law_parted__rest) (pe_op op_add (pvl 5 n_law_parted__left) pe_int))))) (pss_cons (ps_set (i := 7) sc_law_parted.nd rfl (Or.inl n_law_parted__part.l) (pe_ix ix_list (pe_lst (pa_cons pe_int (pa_cons (pe_op op_fdiv (pe_op op_mul (pvl 5 n_law_parted__left) (pe_op op_mod (pe_op op_fdiv (pvl 4 n_law_parted__rest) pe_int) pe_int)) pe_int) (pa_cons (pe_callB (call_min2 rfl) n_law_parted__min.g T.min pb_min (pa_cons (pvl 5 n_law_parted__left) (pa_cons (pe_op op_mod (pe_op op_fdiv (pvl 4 n_law_parted__rest) pe_int) pe_int) pa_nil)) (hn := n_law_parted__min.n) (hdb := n_law_parted__min.d)) (pa_cons (pvl 5 n_law_parted__left) pa_nil))))) (pe_op op_mod (pvl 4 n_law_parted__rest) pe_int) (fun _ _ => rfl))) (pss_one (ps_set (i := 4) sc_law_parted.nd rfl (Or.inl n_law_parted__rest.l) (pe_op op_fdiv (pvl 4 n_law_parted__rest) pe_int))))) (pss_cons (ps_asg (pvl 7 n_law_parted__part) (pg_sub (pvl 3 n_law_parted__laying) (pvl 6 n_law_parted__k) set_list)) (pss_one (ps_set (i := 5) sc_law_parted.nd rfl (Or.inl n_law_parted__left.l) (pe_op op_sub (pvl 5 n_law_parted__left) (pvl 7 n_law_parted__part))))))) (pss_cons (ps_asg (pvl 5 n_law_parted__left) (pg_sub (pvl 3 n_law_parted__laying) (pe_op op_sub (pvl 1 n_law_parted__many) pe_int) set_list)) (pss_one (ps_ret (pvl 3 n_law_parted__laying)))))))), ?_⟩
    rw [show L2.start ["held", "many", "cell", "laying", "rest", "left", "k", "part"] [V.int hd, V.int m, V.int cell] = [some (V.int hd), some (V.int m), some (V.int cell), none, none, none, none, none] from rfl]
    refine cutS fun N1 h1 => ?_
    walk_at "rd"
    refine ⟨smallE (by simp), fun p1 n1 => ?_⟩
    have u1 := Same.new (.lst [V.int 0]) n1
    refine ⟨p1, _, _, rfl, rfl, upd_same, by omega, by omega, smallE (by simp; omega), fun la n2 => ?_⟩
    rw [flatR]
    have na0 := u1.free n2
    have s1 := u1.trans (Same.new (.lst (List.replicate m.toNat (V.int 0))) n2)
    have e1 : upd (upd H p1 (.lst [V.int 0])) la (.lst (List.replicate m.toNat (V.int 0))) la = some (.lst ((List.replicate m.toNat (0 : Int)).map V.int)) := by rw [upd_same, List.map_replicate]
    generalize upd (upd H p1 (.lst [V.int 0])) la (.lst (List.replicate m.toNat (V.int 0))) = H1 at s1 e1 ⊢
    refine h1 _ _ ?_
    clear h1
    refine cutS fun N2 h2 => ?_
    walk_at "rd"
    refine ⟨⟨by decide, by decide⟩, h2 _ _ (cutS fun N3 h3 => ?_)⟩
    walk_at "rd"
    refine h3 _ _ (cutS fun N4 h4 => ?_)
    walk_at "rd"
    refine ⟨by omega, by omega, ?_⟩
    refine for_rangeH (fun i σ H3 => Same H H3 ∧ ∃ (xs : List Int) (rest left : Int) (v6 v7 : Option V), H3 la = some (.lst (xs.map V.int)) ∧ (xs.length : Int) = m ∧ (∀ x ∈ xs, 0 ≤ x ∧ x ≤ hd) ∧ 0 ≤ left ∧ left ≤ hd ∧ xs.sum + left = hd ∧ (∀ j : Nat, i ≤ j → xs.getD j 0 = 0) ∧ σ = [some (V.int hd), some (V.int m), some (V.int cell), some (V.ref la), some (V.int rest), some (V.int left), v6, v7]) ⟨s1, _, _, _, _, _, e1, by rw [List.length_replicate]; omega, ?_, hd0, Int.le_refl _, ?_, ?_, rfl⟩ ?_ ?_
    · intro x hx
      rw [List.eq_of_mem_replicate hx]
      exact ⟨Int.le_refl _, hd0⟩
    · rw [List.sum_replicate_int, Int.mul_zero, Int.zero_add]
    · intro j _
      rw [List.getD]
      cases e : (List.replicate m.toNat (0 : Int))[j]? with
      | none => rfl
      | some y => exact List.eq_of_mem_replicate (List.mem_of_getElem? e)
    · rintro i σ H3 N' CC hCC hN' hi ⟨s3, xs, rest, left, v6, v7, e3, xl, x0, l0, l1, sm, zr, rfl⟩
      refine hCC _ _ (cutS fun M1 k1 => ?_)
      have fin : ∀ (part rest2 : Int) (H4 : Hp), Same H3 H4 → 0 ≤ part → part ≤ left → M1 [some (V.int hd), some (V.int m), some (V.int cell), some (V.ref la), some (V.int rest2), some (V.int left), some (V.int (0 + (i : Int))), some (V.int part)] H4 := by
        intro part rest2 H4 s4 p0 p1
        refine k1 _ _ ?_
        walk_at "rd"
        have zi := zr i (Nat.le_refl _)
        refine setR (s4 _ _ e3) (by omega) (by rw [List.length_map]; omega) (hN' _ _ ⟨(s3.trans s4).put na0 _, xs.set (0 + (i : Int)).toNat part, _, _, _, _, by rw [upd_same, ← List.map_set], by rw [List.length_set]; exact xl, ?_, by omega, by omega, ?_, ?_, rfl⟩)
        · intro x hx
          rcases List.mem_or_eq_of_mem_set hx with hx | rfl
          · exact x0 x hx
          · exact ⟨p0, by omega⟩
        · rw [sum_set _ _ _ (by omega), show (0 + (i : Int)).toNat = i by omega, zi]
          omega
        · intro j hj
          rw [getD_set _ _ _ _ (by omega), if_neg (by omega)]
          exact zr j (by omega)
      walk_at "rd"
      refine ⟨by decide, ?_⟩
      have p0 : (0 : Int) < left + 1 := by omega
      by_cases c : cell % 2 = 0
      · rw [if_pos c]
        have q0 := Int.emod_nonneg rest (Int.ne_of_gt p0)
        have q1 := Int.emod_lt_of_pos rest p0
        refine ⟨p0, ⟨p0, log_bits (n := 3001) (by omega) ?_ (by decide)⟩, fin _ _ _ (Same.refl _) q0 (by omega)⟩
        have h1 : left + 1 ≤ 2 ^ 3000 := by omega
        rw [show (2 : Int) ^ 3000 = ((2 ^ 3000 : Nat) : Int) from (Int.natCast_pow 2 3000).symm] at h1
        have h2 : (2 : Nat) ^ 3000 < 2 ^ 3001 := Nat.pow_lt_pow_right (by decide) (by decide)
        omega
      · rw [if_neg c]
        have j0 := Int.emod_nonneg (rest / 4) (show (1000 : Int) ≠ 0 by decide)
        have j1 := Int.emod_lt_of_pos (rest / 4) (show (0 : Int) < 1000 by decide)
        refine ⟨⟨by decide, by decide⟩, by decide, .inr ⟨by omega, by omega⟩, ⟨by decide, by decide⟩, ⟨by decide, by decide⟩, by decide, _, _, ⟨rfl, rfl⟩, smallE (by simp), fun p np => ⟨by decide, ?_⟩⟩
        generalize rest / 4 % 1000 = J at j0 j1 ⊢
        have d0 : 0 ≤ left * J / 1000 := Int.ediv_nonneg (Int.mul_nonneg l0 j0) (by decide)
        have d1 : left * J / 1000 ≤ left := by
          have h1 : left * J ≤ left * 1000 := Int.mul_le_mul_of_nonneg_left (by omega) l0
          have h2 : left * J / 1000 ≤ left * 1000 / 1000 := Int.ediv_le_ediv (by decide) h1
          rwa [Int.mul_ediv_cancel _ (by decide)] at h2
        generalize left * J / 1000 = D at d0 d1 ⊢
        obtain ⟨z, ez, z0, z1⟩ : ∃ z : Int, atI [V.int 0, V.int D, V.int (if J < left then J else left), V.int left] (rest % 4) = some (.int z) ∧ 0 ≤ z ∧ z ≤ left := by
          rcases (show rest % 4 = 0 ∨ rest % 4 = 1 ∨ rest % 4 = 2 ∨ rest % 4 = 3 by omega) with z | z | z | z <;> rw [z]
          · exact ⟨0, rfl, by omega, by omega⟩
          · exact ⟨D, rfl, d0, d1⟩
          · refine ⟨if J < left then J else left, rfl, ?_, ?_⟩ <;> split <;> omega
          · exact ⟨left, rfl, l0, by omega⟩
        exact ixL upd_same ez ⟨⟨by decide, by decide⟩, fin z _ _ (Same.new _ np) z0 z1⟩
    · rintro CC σ H3 hCC ⟨s3, xs, rest, left, v6, v7, e3, xl, x0, l0, l1, sm, zr, rfl⟩
      refine hCC _ _ (h4 _ _ ?_)
      have zi := zr (m - 1).toNat (Nat.le_refl _)
      clear h2 h3 h4
      walk_at "rd"
      refine setR e3 (by omega) (by rw [List.length_map]; omega) ?_
      refine k la (xs.set (m - 1).toNat left) _ na0 (s3.put na0 _) (by rw [upd_same, ← List.map_set]) (by rw [List.length_set]; exact xl) ?_ ?_
      · intro x hx
        rcases List.mem_or_eq_of_mem_set hx with hx | rfl
        · exact x0 x hx
        · exact ⟨l0, l1⟩
      · rw [sum_set _ _ _ (by omega), zi]
        omega
/-! #### _law_slack -/
def sp_law_slack (T : Txt K mg) : Sp := fun vs H Q _ => ∃ (dt lo la : Addr) (qs : List Addr) (rs : List Road) (ns t : List Int) (m r : Int) (par : Int → Int) (dep : Int → Nat), vs = [.ref dt, .ref lo, .ref la] ∧ TollsAt H dt rs ∧ Good m rs ∧ Rooted m rs r par dep ∧ H lo = some (.lst (qs.map V.ref)) ∧ PrsAt H r par qs (r :: t) ∧ Order m r par t ∧ t.length + 1 = m.toNat ∧ H la = some (.lst (ns.map V.int)) ∧ 50 ≤ ns.length ∧ (0 ≤ r ∧ r < m) ∧
  ∀ l xs H', H l = none → Same H H' → H' l = some (.lst (xs.map V.int)) → Slk m rs par t xs → (∀ x ∈ xs, x.natAbs < 2 ^ 4000) → Q (.ref l) H'
abbrev s_law_slack : Stmt := top 41
theorem sc_law_slack : FnScope ["tolls", "order", "numbers", "weights", "place", "near", "more"] ["tolls", "order", "numbers"] (defScope s_law_slack) := FnScope.of (by kernel_rfl)
theorem n_law_slack__tolls : NmL (defScope s_law_slack) "tolls" := .of (by kernel_rfl)
theorem n_law_slack__order : NmL (defScope s_law_slack) "order" := .of (by kernel_rfl)
theorem n_law_slack__numbers : NmL (defScope s_law_slack) "numbers" := .of (by kernel_rfl)
theorem n_law_slack__weights : NmL (defScope s_law_slack) "weights" := .of (by kernel_rfl)
theorem n_law_slack__place : NmL (defScope s_law_slack) "place" := .of (by kernel_rfl)
theorem n_law_slack__near : NmL (defScope s_law_slack) "near" := .of (by kernel_rfl)
theorem n_law_slack__more : NmL (defScope s_law_slack) "more" := .of (by kernel_rfl)
theorem n_law_slack__len : NmG (defScope s_law_slack) "len" := .of (by kernel_rfl)
theorem n_law_slack__reversed : NmG (defScope s_law_slack) "reversed" := .of (by kernel_rfl)
theorem n_law_slack__max : NmG (defScope s_law_slack) "max" := .of (by kernel_rfl)

theorem ok_law_slack (T : Txt K mg) (hq : Quiet (CXe P w)) {f : Addr} {fd : FuncData} (D : Df K mg "_law_slack" s_law_slack ["tolls", "order", "numbers"] f fd) : FnOk P w K mg base (CXe P w) 1 f fd ["tolls", "order", "numbers"] (sp_law_slack T) := by
  refine D.F.okC sc_law_slack (fun vs H Q E h => ?_) (fun cdv A outer s H vs Q E hr h => ?_)
  · obtain ⟨dt, lo, la, qs, rs, ns, t, m, r, par, dep, rfl, _⟩ := h
    rfl
  · obtain ⟨dt, lo, la, qs, rs, ns, t, m, r, par, dep, rfl, ta, g, R, ho, pa, O, tl, ha, nl, rr, k⟩ := h
    have m1 := g.m1
    have m24 := g.m24
    have hu := hu_of hr
    have ql : qs.length = (r :: t).length := Paired.length pa
    rw [List.length_cons] at ql
    refine ⟨_, (pss_cons (ps_set (i := 3) sc_law_slack.nd rfl (Or.inl n_law_slack__weights.l) (pe_op op_rep (pe_lst (pa_cons pe_int pa_nil)) (pe_callB call_len_seq n_law_slack__len.g T.len pb_len (pa_cons (pvl 1 n_law_slack__order) pa_nil) (hn := n_law_slack__len.n) (hdb := n_law_slack__len.d)))) (pss_cons (ps_for PassesOwn.never rfl (pi_rev n_law_slack__reversed.g T.reversed (pvl 1 n_law_slack__order)) (pg_tup (n := 2) rfl (pgs_cons (pg_name (i := 4) sc_law_slack.nd rfl (Or.inl n_law_slack__place.l)) (pgs_cons (pg_name (i := 5) sc_law_slack.nd rfl (Or.inl n_law_slack__near.l)) pgs_nil))) (pss_cons (ps_set (i := 6) sc_law_slack.nd rfl (Or.inl n_law_slack__more.l) (pe_ix ix_list (pvl 2 n_law_slack__numbers) (pe_op op_add pe_int (pvl 4 n_law_slack__place)) (fun _ _ => rfl))) (pss_cons (ps_asg (pe_op op_add (pe_ix ix_list (pvl 3 n_law_slack__weights) (pvl 4 n_law_slack__place) (fun _ _ => rfl)) (pe_ix ix_list (pe_lst (pa_cons pe_int (pa_cons pe_int (pa_cons (pe_op op_mod (pe_op op_fdiv (pvl 6 n_law_slack__more) pe_int) pe_int) (pa_cons (pe_op op_mod (pe_op op_fdiv (pvl 6 n_law_slack__more) pe_int) (pe_op op_pow pe_int pe_int)) pa_nil))))) (pe_op op_mod (pvl 6 n_law_slack__more) pe_int) (fun _ _ => rfl))) (pg_sub (pvl 3 n_law_slack__weights) (pvl 4 n_law_slack__place) set_list)) (pss_one (ps_if (pt_cmp (pc_notN (pvl 5 n_law_slack__near))) (pss_one (ps_asg (pe_callB (call_max2 rfl) n_law_slack__max.g T.max pb_max (pa_cons (pe_ix ix_list (pvl 3 n_law_slack__weights) (pvl 5 n_law_slack__near) (fun _ _ => rfl)) (pa_cons (pe_op op_mul (pe_ix ix_list (pvl 3 n_law_slack__weights) (pvl 4 n_law_slack__place) (fun _ _ => rfl)) (pe_dget hu (pvl 0 n_law_slack__tolls) (pe_tup (pa_cons (pvl 4 n_law_slack__place) (pa_cons (pvl 5 n_law_slack__near) pa_nil))) (fun _ _ => rfl))) pa_nil)) (hn := n_law_slack__max.n) (hdb := n_law_slack__max.d)) (pg_sub (pvl 3 n_law_slack__weights) (pvl 5 n_law_slack__near) set_list))) pss_nil))))) (pss_one (ps_ret (pvl 3 n_law_slack__weights))))), ?_⟩
    rw [show L2.start ["tolls", "order", "numbers", "weights", "place", "near", "more"] [V.ref dt, V.ref lo, V.ref la] = [some (V.ref dt), some (V.ref lo), some (V.ref la), none, none, none, none] from rfl]
    walk_at "rd"
    refine ⟨smallE (by simp), fun l0 n0 => ?_⟩
    have s0 := Same.new (.lst [V.int 1]) n0
    refine ⟨_, .inl (SqL.of (s0 _ _ ho)), ?_⟩
    rw [List.length_map]
    refine ⟨l0, _, _, rfl, rfl, upd_same, by omega, by omega, smallE (by simp; omega), fun l n1 => ?_⟩
    rw [flatR]
    rw [show ((qs.length : Int)).toNat = m.toNat by omega]
    have s1 := s0.trans (Same.new (.lst (List.replicate m.toNat (V.int 1))) n1)
    have nl0 := s0.free n1
    have e1 : upd (upd H l0 (.lst [V.int 1])) l (.lst (List.replicate m.toNat (V.int 1))) l = some (.lst ((List.replicate m.toNat (1 : Int)).map V.int)) := by rw [upd_same, List.map_replicate]
    generalize upd (upd H l0 (.lst [V.int 1])) l (.lst (List.replicate m.toNat (V.int 1))) = H1 at s1 e1 ⊢
    refine ⟨_, SqL.of (s1 _ _ ho), ?_⟩
    have st : Slk m rs par [] (List.replicate m.toNat (1 : Int)) := ⟨by rw [List.length_replicate]; omega, fun v v0 v1 => by rw [List.getD, List.getElem?_replicate_of_lt (by omega)]; exact Int.le_refl _, fun c hc => by cases hc⟩
    refine for_revN (K := K) (xs := qs.map V.ref) (fun i σ H5 => Same H H5 ∧ ∃ (cs : List Int) (v6 v7 v8 : Option V), H5 l = some (.lst (cs.map V.int)) ∧ Slk m rs par (t.drop (t.length - i)) cs ∧ (∀ x ∈ cs, 1 ≤ x ∧ x ≤ (2 : Int) ^ (50 * i)) ∧ σ = [some (V.ref dt), some (V.ref lo), some (V.ref la), some (V.ref l), v6, v7, v8]) ⟨s1, _, _, _, _, e1, by rw [Nat.sub_zero, List.drop_length]; exact st, fun x hx => by rw [(List.mem_replicate.mp hx).2]; exact ⟨by decide, by decide⟩, rfl⟩ (fun i σ H5 _ z => SqL.of (z.1 _ _ ho)) ?_ ?_
    · rintro i x σ H5 N hN hx ⟨s5, cs, v6, v7, v8, c5, so, cb, rfl⟩
      have il := (List.getElem?_eq_some_iff.mp hx).1
      rw [List.length_reverse, List.length_map, ql] at il
      rw [List.getElem?_reverse (by rw [List.length_map, ql]; omega), List.length_map, ql] at hx
      obtain ⟨q, v, rfl, hq, hv, e5⟩ := pa.get hx
      have hv' : (r :: t).reverse[i]? = some v := by rw [List.getElem?_reverse (by rw [List.length_cons]; omega), List.length_cons]; exact hv
      rw [List.reverse_cons] at hv'
      have cl := so.len
      have vr : 0 ≤ v ∧ v < m := by
        rcases List.mem_cons.mp (List.mem_of_getElem? hv) with z | z
        · rw [z]; exact rr
        · exact O.rng v z
      have em : ∀ (x n : Int), 0 < n → 0 ≤ x % n ∧ x % n < n := fun x n h => ⟨Int.emod_nonneg x (Int.ne_of_gt h), Int.emod_lt_of_pos x h⟩
      have e9 : (10 : Int) ^ Int.toNat 9 = 1000000000 := by decide
      have hB : (1 : Int) ≤ 2 ^ (50 * i) := Int.pow_pos (by decide)
      have eB : (2 : Int) ^ (50 * (i + 1)) = 2 ^ (50 * i) * 2 ^ 50 := by rw [Nat.mul_succ, Int.pow_add]
      walk_at "rd"
      refine ⟨_, SqT.of (s5 _ _ e5), rfl, _, _, rfl, _, _, rfl, rfl, ?_⟩
      walk_at "rd"
      refine ixL (s5 _ _ ha) (atG (by omega) (by omega)) ?_
      generalize ns.getD (26 + v).toNat 0 = mo
      refine ixL c5 (atG vr.1 (by omega)) ?_
      refine ⟨_, rfl, ⟨by decide, by decide⟩, by decide, _, rfl, ⟨by decide, by decide⟩, ⟨by decide, by decide, by decide⟩, by decide +kernel, smallE (by simp), fun q1 nq1 => ⟨_, rfl, by decide, ?_⟩⟩
      rw [e9]
      have b1 := em (mo / 4) 5 (by decide)
      have b2 := em (mo / 4) 1000000000 (by decide)
      obtain ⟨ad, had, a0, a1⟩ : ∃ ad : Int, atI [V.int 0, V.int 0, V.int (mo / 4 % 5), V.int (mo / 4 % 1000000000)] (mo % 4) = some (.int ad) ∧ 0 ≤ ad ∧ ad < 1000000000 := by
        rcases (show mo % 4 = 0 ∨ mo % 4 = 1 ∨ mo % 4 = 2 ∨ mo % 4 = 3 by omega) with z | z | z | z
        · exact ⟨0, by rw [z]; rfl, by decide, by decide⟩
        · exact ⟨0, by rw [z]; rfl, by decide, by decide⟩
        · exact ⟨_, by rw [z]; rfl, b1.1, by omega⟩
        · exact ⟨_, by rw [z]; rfl, b2.1, b2.2⟩
      have s6 := s5.trans (Same.new (.lst [V.int 0, V.int 0, V.int (mo / 4 % 5), V.int (mo / 4 % 1000000000)]) nq1)
      have c6 := Same.new (.lst [V.int 0, V.int 0, V.int (mo / 4 % 5), V.int (mo / 4 % 1000000000)]) nq1 _ _ c5
      refine ixL upd_same had ?_
      generalize upd H5 q1 (.lst [V.int 0, V.int 0, V.int (mo / 4 % 5), V.int (mo / 4 % 1000000000)]) = H6 at s6 c6 ⊢
      have vm := getD_in (cs := cs) (i := v.toNat) (by omega)
      obtain ⟨x1, x2⟩ := cb _ vm
      have up50 : (2 : Int) ^ (50 * i) ≤ 2 ^ (50 * (i + 1)) := by
        rw [eB]
        exact Int.le_trans (Int.le_of_eq (Int.mul_one _).symm) (Int.mul_le_mul (Int.le_refl _) (show (1 : Int) ≤ 2 ^ 50 by decide +kernel) (by decide) (by omega))
      have cu := slack_up cb up50
      refine ⟨_, rfl, _, rfl, setR c6 vr.1 (by rw [List.length_map]; omega) ?_⟩
      rw [← List.map_set]
      have s7 := s6.put nl0 (.lst ((cs.set v.toNat (cs.getD v.toNat 0 + ad)).map V.int))
      have c7 : upd H6 l (.lst ((cs.set v.toNat (cs.getD v.toNat 0 + ad)).map V.int)) l = some (.lst ((cs.set v.toNat (cs.getD v.toNat 0 + ad)).map V.int)) := upd_same
      generalize upd H6 l (.lst ((cs.set v.toNat (cs.getD v.toNat 0 + ad)).map V.int)) = H7 at s7 c7 ⊢
      by_cases ci : i < t.length
      · rw [List.getElem?_append_left (by rw [List.length_reverse]; exact ci)] at hv'
        have vn : v ≠ r := (O.cut R hv').1.2
        have u := R.up v vr.1 vr.2 vn
        obtain ⟨kd, hd, d0, d1⟩ := toll_up g R vr.1 vr.2 vn
        obtain ⟨y1, y2⟩ := slack_le hB x1 x2 a0 a1 d0 d1
        rw [← eB] at y1 y2
        have cb1 := slack_set (i := v.toNat) cu (y := cs.getD v.toNat 0 + ad) (by omega) y1
        have fv : Pb.front r par v = V.int (par v) := by unfold Pb.front; rw [if_neg vn]
        rw [fv]
        have nn : ¬ V.int (par v) = V.non := by intro z; cases z
        rw [if_pos nn]
        have l1 : ((cs.set v.toNat (cs.getD v.toNat 0 + ad)).length : Int) = m := by rw [List.length_set]; exact cl
        have gv := atG (xs := cs.set v.toNat (cs.getD v.toNat 0 + ad)) vr.1 (by omega)
        rw [getD_set _ _ _ _ (by omega), if_pos rfl] at gv
        have pm := getD_in (cs := cs.set v.toNat (cs.getD v.toNat 0 + ad)) (i := (par v).toNat) (by omega)
        obtain ⟨p1, p2⟩ := cb1 _ pm
        refine ixL c7 (atG u.1.1 (by omega)) (ixL c7 gv ⟨smallE (by simp), fun q' nq' => ?_⟩)
        have s8 := Same.new (.tup [V.int v, V.int (par v)]) nq'
        have get : DGet (upd H7 q' (.tup [V.int v, V.int (par v)])) dt (V.ref q') (some (V.int kd)) := by
          obtain ⟨kvs, hkv, hv2⟩ := (ta.same s7).ex
          have hg := DGet.t (k := [.inl v, .inl (par v)]) (s8 _ _ hkv) upd_same
          rw [hv2, hd] at hg
          exact hg
        have c8 := s8 _ _ c7
        have st := so.turn g R O hv' a0 (y := mx ((cs.set v.toNat (cs.getD v.toNat 0 + ad)).getD (par v).toNat 0) ((cs.getD v.toNat 0 + ad) * kd)) (by rw [hd]; rfl)
        refine ⟨_, get, _, rfl, _, rfl, .inr ⟨by omega, by omega⟩, _, _, ⟨rfl, rfl⟩, setR c8 u.1.1 (by rw [List.length_map]; omega) (hN _ _ ⟨(s7.trans s8).put nl0 _, _, _, _, _, by rw [upd_same, ← List.map_set]; rfl, st, slack_set cb1 ?_ ?_, rfl⟩)⟩
        · unfold mx; split <;> omega
        · unfold mx; split <;> omega
      · have ei : i = t.reverse.length := by rw [List.length_reverse]; omega
        rw [ei, List.getElem?_append_right (Nat.le_refl _), Nat.sub_self] at hv'
        cases hv'
        have fv : Pb.front r par r = V.non := by unfold Pb.front; rw [if_pos rfl]
        rw [fv, if_neg (fun z => z rfl)]
        obtain ⟨y1, _⟩ := slack_le (k := 2) hB x1 x2 a0 a1 (by decide) (by decide)
        rw [← eB] at y1
        rw [List.length_reverse] at ei
        refine hN _ _ ⟨s7, _, _, _, _, c7, ?_, slack_set cu (by omega) y1, rfl⟩
        rw [show t.length - (i + 1) = t.length - i by omega]
        refine so.more (fun c hc => ?_) rr.1 rr.2 (by omega) fun z => ?_
        · have hc' := List.mem_of_mem_drop hc
          have := R.up c (O.rng c hc').1 (O.rng c hc').2 (O.ne hc')
          exact ⟨(O.rng c hc').1, (O.rng c hc').2, this.1.1, this.1.2⟩
        · exact O.ne (List.mem_of_mem_drop z) rfl
    · rintro σ H5 ⟨s5, cs, v6, v7, v8, c5, so, cb, rfl⟩
      rw [List.length_map, ql, show t.length - (t.length + 1) = 0 by omega, List.drop_zero] at so
      rw [List.length_map, ql] at cb
      walk_at "rd"
      exact k l cs H5 nl0 s5 c5 so (slack_fin (by omega) cb)
/-! #### _law_least -/
def sp_law_least (T : Txt K mg) : Sp := fun vs H Q _ => ∃ (dt lo : Addr) (qs : List Addr) (rs : List Road) (t : List Int) (m r : Int) (par : Int → Int) (dep : Int → Nat), vs = [.ref dt, .ref lo] ∧ TollsAt H dt rs ∧ Good m rs ∧ Rooted m rs r par dep ∧ H lo = some (.lst (qs.map V.ref)) ∧ PrsAt H r par qs (r :: t) ∧ Order m r par t ∧ t.length + 1 = m.toNat ∧
  ∀ l H', H l = none → Same H H' → H' l = some (.lst ((wgtL m rs r par dep).map V.int)) → Q (.ref l) H'
abbrev s_law_least : Stmt := top 40
theorem sc_law_least : FnScope ["tolls", "order", "weights", "place", "near"] ["tolls", "order"] (defScope s_law_least) := FnScope.of (by kernel_rfl)
theorem n_law_least__tolls : NmL (defScope s_law_least) "tolls" := .of (by kernel_rfl)
theorem n_law_least__order : NmL (defScope s_law_least) "order" := .of (by kernel_rfl)
theorem n_law_least__weights : NmL (defScope s_law_least) "weights" := .of (by kernel_rfl)
theorem n_law_least__place : NmL (defScope s_law_least) "place" := .of (by kernel_rfl)
theorem n_law_least__near : NmL (defScope s_law_least) "near" := .of (by kernel_rfl)
theorem n_law_least__len : NmG (defScope s_law_least) "len" := .of (by kernel_rfl)
theorem n_law_least__reversed : NmG (defScope s_law_least) "reversed" := .of (by kernel_rfl)
theorem n_law_least__max : NmG (defScope s_law_least) "max" := .of (by kernel_rfl)

theorem ok_law_least (T : Txt K mg) (hq : Quiet (CXe P w)) {f : Addr} {fd : FuncData} (D : Df K mg "_law_least" s_law_least ["tolls", "order"] f fd) : FnOk P w K mg base (CXe P w) 1 f fd ["tolls", "order"] (sp_law_least T) := by
  refine D.F.okC sc_law_least (fun vs H Q E h => ?_) (fun cdv A outer s H vs Q E hr h => ?_)
  · obtain ⟨dt, lo, qs, rs, t, m, r, par, dep, rfl, _⟩ := h
    rfl
  · obtain ⟨dt, lo, qs, rs, t, m, r, par, dep, rfl, ta, g, R, ho, pa, O, tl, k⟩ := h
    have m1 := g.m1
    have m24 := g.m24
    have hu := hu_of hr
    have ql : qs.length = (r :: t).length := Paired.length pa
    rw [List.length_cons] at ql
    refine ⟨_, (pss_cons (ps_set (i := 2) sc_law_least.nd rfl (Or.inl n_law_least__weights.l) (pe_op op_rep (pe_lst (pa_cons pe_int pa_nil)) (pe_callB call_len_seq n_law_least__len.g T.len pb_len (pa_cons (pvl 1 n_law_least__order) pa_nil) (hn := n_law_least__len.n) (hdb := n_law_least__len.d)))) (pss_cons (ps_for PassesOwn.never rfl (pi_rev n_law_least__reversed.g T.reversed (pvl 1 n_law_least__order)) (pg_tup (n := 2) rfl (pgs_cons (pg_name (i := 3) sc_law_least.nd rfl (Or.inl n_law_least__place.l)) (pgs_cons (pg_name (i := 4) sc_law_least.nd rfl (Or.inl n_law_least__near.l)) pgs_nil))) (pss_one (ps_if (pt_cmp (pc_notN (pvl 4 n_law_least__near))) (pss_one (ps_asg (pe_callB (call_max2 rfl) n_law_least__max.g T.max pb_max (pa_cons (pe_ix ix_list (pvl 2 n_law_least__weights) (pvl 4 n_law_least__near) (fun _ _ => rfl)) (pa_cons (pe_op op_mul (pe_ix ix_list (pvl 2 n_law_least__weights) (pvl 3 n_law_least__place) (fun _ _ => rfl)) (pe_dget hu (pvl 0 n_law_least__tolls) (pe_tup (pa_cons (pvl 3 n_law_least__place) (pa_cons (pvl 4 n_law_least__near) pa_nil))) (fun _ _ => rfl))) pa_nil)) (hn := n_law_least__max.n) (hdb := n_law_least__max.d)) (pg_sub (pvl 2 n_law_least__weights) (pvl 4 n_law_least__near) set_list))) pss_nil))) (pss_one (ps_ret (pvl 2 n_law_least__weights))))), ?_⟩
    rw [show L2.start ["tolls", "order", "weights", "place", "near"] [V.ref dt, V.ref lo] = [some (V.ref dt), some (V.ref lo), none, none, none] from rfl]
    walk_at "rd"
    refine ⟨smallE (by simp), fun l0 n0 => ?_⟩
    have s0 := Same.new (.lst [V.int 1]) n0
    refine ⟨_, .inl (SqL.of (s0 _ _ ho)), ?_⟩
    rw [List.length_map]
    refine ⟨l0, _, _, rfl, rfl, upd_same, by omega, by omega, smallE (by simp; omega), fun l n1 => ?_⟩
    rw [flatR]
    rw [show ((qs.length : Int)).toNat = m.toNat by omega]
    have s1 := s0.trans (Same.new (.lst (List.replicate m.toNat (V.int 1))) n1)
    have nl := s0.free n1
    have e1 : upd (upd H l0 (.lst [V.int 1])) l (.lst (List.replicate m.toNat (V.int 1))) l = some (.lst ((List.replicate m.toNat (1 : Int)).map V.int)) := by rw [upd_same, List.map_replicate]
    have nlo : lo ≠ l := fun z => by rw [← z, s0 _ _ ho] at n1; cases n1
    generalize upd (upd H l0 (.lst [V.int 1])) l (.lst (List.replicate m.toNat (V.int 1))) = H1 at s1 e1 ⊢
    refine ⟨_, SqL.of (s1 _ _ ho), ?_⟩
    have st : Sofo mx m rs r par dep (fun _ => 1) (bor rs par) [] (List.replicate m.toNat (1 : Int)) := Sofo.nil (by rw [List.length_replicate]; omega) fun v v0 v1 => by
      rw [List.getD, List.getElem?_replicate_of_lt (by omega)]; rfl
    refine for_revN (K := K) (xs := qs.map V.ref) (fun i σ H5 => Same H H5 ∧ ∃ (cs : List Int) (v6 v7 : Option V), H5 l = some (.lst (cs.map V.int)) ∧ Sofo mx m rs r par dep (fun _ => 1) (bor rs par) (t.drop (t.length - i)) cs ∧ σ = [some (V.ref dt), some (V.ref lo), some (V.ref l), v6, v7]) ⟨s1, _, _, _, e1, by rw [Nat.sub_zero, List.drop_length]; exact st, rfl⟩ (fun i σ H5 _ z => SqL.of (z.1 _ _ ho)) ?_ ?_
    · rintro i x σ H5 N hN hx ⟨s5, cs, v6, v7, c5, so, rfl⟩
      have il := (List.getElem?_eq_some_iff.mp hx).1
      rw [List.length_reverse, List.length_map, ql] at il
      rw [List.getElem?_reverse (by rw [List.length_map, ql]; omega), List.length_map, ql] at hx
      obtain ⟨q, v, rfl, hq, hv, e5⟩ := pa.get hx
      have hv' : (r :: t).reverse[i]? = some v := by rw [List.getElem?_reverse (by rw [List.length_cons]; omega), List.length_cons]; exact hv
      rw [List.reverse_cons] at hv'
      have cl := so.len
      walk_at "rd"
      refine ⟨_, SqT.of (s5 _ _ e5), rfl, _, _, rfl, _, _, rfl, rfl, ?_⟩
      walk_at "rd"
      by_cases ci : i < t.length
      · rw [List.getElem?_append_left (by rw [List.length_reverse]; exact ci)] at hv'
        obtain ⟨⟨vr, vn⟩, ev, so'⟩ := O.turnF mx_comm g R so hv'
        have u := R.up v vr.1 vr.2 vn
        obtain ⟨kd, hd, d0, d1⟩ := toll_up g R vr.1 vr.2 vn
        have fv : Pb.front r par v = V.int (par v) := by unfold Pb.front; rw [if_neg vn]
        rw [fv]
        have nn : ¬ V.int (par v) = V.non := by intro z; cases z
        rw [if_pos nn]
        refine ixL c5 (atG u.1.1 (by omega)) (ixL c5 (atG vr.1 (by omega)) ⟨smallE (by simp), fun q' nq' => ?_⟩)
        have s6 := Same.new (.tup [V.int v, V.int (par v)]) nq'
        have get : DGet (upd H5 q' (.tup [V.int v, V.int (par v)])) dt (V.ref q') (some (V.int kd)) := by
          obtain ⟨kvs, hkv, hv2⟩ := (ta.same s5).ex
          have hg := DGet.t (k := [.inl v, .inl (par v)]) (s6 _ _ hkv) upd_same
          rw [hv2, hd] at hg
          exact hg
        have c6 := s6 _ _ c5
        refine ⟨_, get, _, rfl, _, rfl, .inr ⟨by omega, by omega⟩, _, _, ⟨rfl, rfl⟩, setR c6 u.1.1 (by rw [List.length_map]; omega) (hN _ _ ⟨(s5.trans s6).put nl _, fstep mx par (bor rs par) cs v, _, _, ?_, so', rfl⟩)⟩
        rw [upd_same, ← List.map_set]
        unfold fstep bor mx
        rw [hd]
        rfl
      · have ei : i = t.reverse.length := by rw [List.length_reverse]; omega
        rw [ei, List.getElem?_append_right (Nat.le_refl _), Nat.sub_self] at hv'
        cases hv'
        have fv : Pb.front r par r = V.non := by unfold Pb.front; rw [if_pos rfl]
        rw [fv, if_neg (fun z => z rfl)]
        refine hN _ _ ⟨s5, cs, _, _, c5, ?_, rfl⟩
        rw [List.length_reverse] at ei
        rw [show t.length - (i + 1) = t.length - i by omega]
        exact so
    · rintro σ H5 ⟨s5, cs, v6, v7, c5, so, rfl⟩
      rw [List.length_map, ql, show t.length - (t.length + 1) = 0 by omega, List.drop_zero] at so
      rw [O.doneF mx_comm g R so] at c5
      walk_at "rd"
      exact k l H5 nl s5 c5
/-! #### _law_spread -/
def bdS (i : Nat) : Nat := 10 ^ 60 * (10 ^ 6) ^ i
theorem bdS_succ (i : Nat) : bdS (i + 1) = bdS i * 1000000 := by
  unfold bdS
  rw [show (10 ^ 6 : Nat) ^ (i + 1) = (10 ^ 6) ^ i * 10 ^ 6 from Nat.pow_succ .., ← Nat.mul_assoc]
theorem bdS_le {i : Nat} (h : i ≤ 24) : bdS i ≤ bdS 24 := Nat.mul_le_mul_left _ (Nat.pow_le_pow_right (by decide) h)
theorem bdS_24 : bdS 24 < 2 ^ 700 := by unfold bdS; decide +kernel
theorem bdS_pos (i : Nat) : 0 < bdS i := Nat.mul_pos (by decide) (Nat.pow_pos (by decide))
def sp_law_spread (T : Txt K mg) : Sp := fun vs H Q _ => ∃ (dt lo : Addr) (qs : List Addr) (rs : List Road) (t : List Int) (m r w cell : Int) (par : Int → Int) (dep : Int → Nat), vs = [.ref dt, .ref lo, .int w, .int cell] ∧ TollsAt H dt rs ∧ Good m rs ∧ Rooted m rs r par dep ∧ H lo = some (.lst (qs.map V.ref)) ∧ PrsAt H r par qs (r :: t) ∧ Order m r par t ∧ t.length + 1 = m.toNat ∧ (0 ≤ r ∧ r < m) ∧ 1 ≤ w ∧ w ≤ 10 ^ 60 ∧
  ∀ (tq la ld : Addr) (xs ys : List Int) (H' : Hp), H la = none → Same H H' → H' tq = some (.tup [.ref la, .ref ld]) → H' la = some (.lst (xs.map V.int)) → (xs.length : Int) = m → (∀ x ∈ xs, 0 ≤ x ∧ x < 2 ^ 720) → Q (.ref tq) H'
abbrev s_law_spread : Stmt := top 44
theorem sc_law_spread : FnScope ["tolls", "order", "wanted", "cell", "weights", "laying", "load", "rest", "place", "near", "kids_v", "heavy", "left", "kid", "gives"] ["tolls", "order", "wanted", "cell"] (defScope s_law_spread) := FnScope.of (by kernel_rfl)
theorem n_law_spread__tolls : NmC (defScope s_law_spread) "tolls" := .of (by kernel_rfl)
theorem n_law_spread__order : NmL (defScope s_law_spread) "order" := .of (by kernel_rfl)
theorem n_law_spread__wanted : NmL (defScope s_law_spread) "wanted" := .of (by kernel_rfl)
theorem n_law_spread__cell : NmL (defScope s_law_spread) "cell" := .of (by kernel_rfl)
theorem n_law_spread__weights : NmC (defScope s_law_spread) "weights" := .of (by kernel_rfl)
theorem n_law_spread__laying : NmL (defScope s_law_spread) "laying" := .of (by kernel_rfl)
theorem n_law_spread__load : NmL (defScope s_law_spread) "load" := .of (by kernel_rfl)
theorem n_law_spread__rest : NmL (defScope s_law_spread) "rest" := .of (by kernel_rfl)
theorem n_law_spread__place : NmC (defScope s_law_spread) "place" := .of (by kernel_rfl)
theorem n_law_spread__near : NmL (defScope s_law_spread) "near" := .of (by kernel_rfl)
theorem n_law_spread__kids_v : NmL (defScope s_law_spread) "kids_v" := .of (by kernel_rfl)
theorem n_law_spread__heavy : NmL (defScope s_law_spread) "heavy" := .of (by kernel_rfl)
theorem n_law_spread__left : NmL (defScope s_law_spread) "left" := .of (by kernel_rfl)
theorem n_law_spread__kid : NmL (defScope s_law_spread) "kid" := .of (by kernel_rfl)
theorem n_law_spread__gives : NmL (defScope s_law_spread) "gives" := .of (by kernel_rfl)
theorem n_law_spread__law_least : NmG (defScope s_law_spread) "_law_least" := .of (by kernel_rfl)
theorem n_law_spread__len : NmG (defScope s_law_spread) "len" := .of (by kernel_rfl)

theorem ok_law_spread (T : Txt K mg) (hq : Quiet (CXe P w)) {f : Addr} {fd : FuncData} (D : Df K mg "_law_spread" s_law_spread ["tolls", "order", "wanted", "cell"] f fd) {f_law_least : Addr} {fd_law_least : FuncData} (D_law_least : Df K mg "_law_least" s_law_least ["tolls", "order"] f_law_least fd_law_least) (G_law_least : FnOk P w K mg base (CXe P w) 1 f_law_least fd_law_least ["tolls", "order"] (sp_law_least T)) : FnOk P w K mg base (CXe P w) 2 f fd ["tolls", "order", "wanted", "cell"] (sp_law_spread T) := by
  refine D.F.okC sc_law_spread (fun vs H Q E h => ?_) (fun cdv A outer s H vs Q E hr h => ?_)
  · obtain ⟨dt, lo, qs, rs, t, m, r, w, cell, par, dep, rfl, _⟩ := h
    rfl
  · obtain ⟨dt, lo, qs, rs, t, m, r, w, cell, par, dep, rfl, ta, g, R, ho, pa, O, tl, ⟨r0, r1⟩, w1, w2, k⟩ := h
    have m1 := g.m1
    have m24 := g.m24
    have hu := hu_of hr
    have hv := hr.units
    have ql : qs.length = (r :: t).length := Paired.length pa
    rw [List.length_cons] at ql
    refine ⟨_, (pss_cons (ps_set (i := 4) sc_law_spread.nd rfl (Or.inr n_law_spread__weights.l) (pe_call G_law_least (hr.mono (by decide)) n_law_spread__law_least.g D_law_least.m D_law_least.F.kp D_law_least.b .nil (passQ hq) (pa_cons (pvc 0 n_law_spread__tolls) (pa_cons (pvl 1 n_law_spread__order) pa_nil)) (hdb := n_law_spread__law_least.d))) (pss_cons (ps_set (i := 5) sc_law_spread.nd rfl (Or.inl n_law_spread__laying.l) (pe_op op_rep (pe_lst (pa_cons pe_int pa_nil)) (pe_callB call_len_seq n_law_spread__len.g T.len pb_len (pa_cons (pvl 1 n_law_spread__order) pa_nil) (hn := n_law_spread__len.n) (hdb := n_law_spread__len.d)))) (pss_cons (ps_set (i := 6) sc_law_spread.nd rfl (Or.inl n_law_spread__load.l) (pe_op op_rep (pe_lst (pa_cons pe_int pa_nil)) (pe_callB call_len_seq n_law_spread__len.g T.len pb_len (pa_cons (pvl 1 n_law_spread__order) pa_nil) (hn := n_law_spread__len.n) (hdb := n_law_spread__len.d)))) (pss_cons (ps_asg (pe_op op_sub (pvl 2 n_law_spread__wanted) pe_int) (pg_sub (pvl 6 n_law_spread__load) (pe_ix ix_tup (pe_ix ix_list (pvl 1 n_law_spread__order) pe_int (fun _ _ => rfl)) pe_int (fun _ _ => rfl)) set_list)) (pss_cons (ps_set (i := 7) sc_law_spread.nd rfl (Or.inl n_law_spread__rest.l) (pvl 3 n_law_spread__cell)) (pss_cons (ps_for PassesOwn.never rfl (pi_list (pvl 1 n_law_spread__order)) (pg_tup (n := 2) rfl (pgs_cons (pg_name (i := 8) sc_law_spread.nd rfl (Or.inr n_law_spread__place.l)) (pgs_cons (pg_name (i := 9) sc_law_spread.nd rfl (Or.inl n_law_spread__near.l)) pgs_nil))) (pss_cons (ps_setComp (i := 10) sc_law_spread.nd rfl n_law_spread__kids_v.l rfl (ct_clos (Nc := ["pair", "place"]) 1 [8] (by decide +kernel) rfl (by decide +kernel) rfl (by show ∀ (y : Str × NameKind), y ∈ _ → y.2 = NameKind.free → (defScope s_law_spread).names.lookup y.1 = some NameKind.cell; decide +kernel) rfl (fun _ h => cell_has h) (fun i hi => match i, hi with | 0, _ => ⟨"place", 8, rfl, rfl, rfl, by decide +kernel⟩ | i + 1, hi => absurd hi (by show ¬ i + 1 < 1; omega))) (pi_list (pvl 1 n_law_spread__order)) (fun _ _ _ _ => (pg_name (i := 0) (show (["pair", "place"] : List Str).Nodup from by decide +kernel) rfl (Or.inl rfl))) (fun _ _ _ _ => (pts_one (pt_cmpR op_eq (pe_ix (ix_tupK K rfl) (pv 0) pe_int (fun _ _ => rfl)) (pv 1) (nomark _)))) (fun _ _ _ _ => (pe_ix (ix_tupK K rfl) (pv 0) pe_int (fun _ _ => rfl)))) (pss_cons (ps_setComp (i := 11) sc_law_spread.nd rfl n_law_spread__heavy.l rfl (ct_clos (Nc := ["kid", "weights", "place", "tolls"]) 1 [4, 8, 0] (by decide +kernel) rfl (by decide +kernel) rfl (by show ∀ (y : Str × NameKind), y ∈ _ → y.2 = NameKind.free → (defScope s_law_spread).names.lookup y.1 = some NameKind.cell; decide +kernel) rfl (fun _ h => cell_has h) (fun i hi => match i, hi with | 0, _ => ⟨"weights", 4, rfl, rfl, rfl, by decide +kernel⟩ | 1, _ => ⟨"place", 8, rfl, rfl, rfl, by decide +kernel⟩ | 2, _ => ⟨"tolls", 0, rfl, rfl, rfl, by decide +kernel⟩ | i + 3, hi => absurd hi (by show ¬ i + 3 < 3; omega))) (pi_list (pvl 10 n_law_spread__kids_v)) (fun _ _ _ _ => (pg_name (i := 0) (show (["kid", "weights", "place", "tolls"] : List Str).Nodup from by decide +kernel) rfl (Or.inl rfl))) (fun _ _ _ _ => (pts_one (pt_cmpR op_eq (pe_op op_mulB (pe_ix (ix_listK K rfl) (pv 1) (pv 0) (fun _ _ => rfl)) (pe_dget hu (pv 3) (pe_tup (pa_cons (pv 0) (pa_cons (pv 2) pa_nil))) (fun _ _ => rfl))) (pe_ix (ix_listK K rfl) (pv 1) (pv 2) (fun _ _ => rfl)) (nomark _)))) (fun _ _ _ _ => (pv 0))) (pss_cons (ps_set (i := 12) sc_law_spread.nd rfl (Or.inl n_law_spread__left.l) (pe_ix ix_list (pvl 6 n_law_spread__load) (pvc 8 n_law_spread__place) (fun _ _ => rfl))) (pss_cons (ps_for PassesOwn.never rfl (pi_list (pvl 10 n_law_spread__kids_v)) (pg_name (i := 13) sc_law_spread.nd rfl (Or.inl n_law_spread__kid.l)) (pss_cons (ps_set (i := 14) sc_law_spread.nd rfl (Or.inl n_law_spread__gives.l) pe_int) (pss_cons (ps_if (pt_cmpR op_in_seq (pvl 13 n_law_spread__kid) (pvl 11 n_law_spread__heavy) (by with_unfolding_all rfl)) (pss_cons (ps_set (i := 14) sc_law_spread.nd rfl (Or.inl n_law_spread__gives.l) (pvl 12 n_law_spread__left)) (pss_one (ps_if (pt_cmpR op_ne (pvl 13 n_law_spread__kid) (pe_ix ix_list (pvl 11 n_law_spread__heavy) (pe_un un_neg pe_int) (fun _ _ => rfl)) (nomark _)) (pss_cons (ps_set (i := 14) sc_law_spread.nd rfl (Or.inl n_law_spread__gives.l) (pe_op op_mod (pvl 7 n_law_spread__rest) (pe_op op_add (pvl 12 n_law_spread__left) pe_int))) (pss_one (ps_set (i := 7) sc_law_spread.nd rfl (Or.inl n_law_spread__rest.l) (pe_op op_fdivL (pvl 7 n_law_spread__rest) (pe_op op_add (pvl 12 n_law_spread__left) pe_int))))) pss_nil))) pss_nil) (pss_cons (ps_set (i := 12) sc_law_spread.nd rfl (Or.inl n_law_spread__left.l) (pe_op op_sub (pvl 12 n_law_spread__left) (pvl 14 n_law_spread__gives))) (pss_one (ps_asg (pe_op op_sub (pe_op op_mul (pe_dget hu (pvc 0 n_law_spread__tolls) (pe_tup (pa_cons (pvl 13 n_law_spread__kid) (pa_cons (pvc 8 n_law_spread__place) pa_nil))) (fun _ _ => rfl)) (pe_op op_add (pvl 14 n_law_spread__gives) pe_int)) pe_int) (pg_sub (pvl 6 n_law_spread__load) (pvl 13 n_law_spread__kid) set_list))))))) (pss_one (ps_if (pt_cmpR (op_eqD hv) (pvl 10 n_law_spread__kids_v) (pe_lst pa_nil) (nomark _)) (pss_one (ps_asg (pe_ix ix_list (pvl 6 n_law_spread__load) (pvc 8 n_law_spread__place) (fun _ _ => rfl)) (pg_sub (pvl 5 n_law_spread__laying) (pvc 8 n_law_spread__place) set_list))) pss_nil))))))) (pss_one (ps_ret (pe_tup (pa_cons (pvl 5 n_law_spread__laying) (pa_cons (pvl 6 n_law_spread__load) pa_nil))))))))))), ?_⟩
    rw [show L2.start ["tolls", "order", "wanted", "cell", "weights", "laying", "load", "rest", "place", "near", "kids_v", "heavy", "left", "kid", "gives"] [V.ref dt, V.ref lo, V.int w, V.int cell] = [some (V.ref dt), some (V.ref lo), some (V.int w), some (V.int cell), none, none, none, none, none, none, none, none, none, none, none] from rfl]
    refine cutS fun N1 h1 => ?_
    walk_at "rd"
    refine ⟨dt, lo, qs, rs, t, m, r, par, dep, rfl, ta, g, R, ho, pa, O, tl, fun lw H1 nw s1 ew => h1 _ _ (cutS fun N2 h2 => ?_)⟩
    have rep : ∀ (H2 : Hp) (R' : VK), Same H H2 → (∀ q H3, H2 q = none → Same H2 H3 → H3 q = some (.lst ((List.replicate m.toNat (0 : Int)).map V.int)) → R' (.ref q) H3) → [V.int 0].length ≤ sizeLine ∧ ∀ (p : Addr), H2 p = none → ∃ x, (SqL K (upd H2 p (HO.lst [V.int 0])) lo x ∨ SqT K (upd H2 p (HO.lst [V.int 0])) lo x) ∧ rRep (V.ref p) (V.int (x.length : Int)) (upd H2 p (HO.lst [V.int 0])) R' := by
      intro H2 R' s2 q
      refine ⟨smallE (by simp), fun p1 n1 => ?_⟩
      have u1 := Same.new (.lst [V.int 0]) n1
      refine ⟨_, .inl (SqL.of (u1 _ _ (s2 _ _ ho))), ?_⟩
      rw [List.length_map, ql]
      refine ⟨p1, _, _, rfl, rfl, upd_same, by omega, by omega, smallE (by simp; omega), fun p2 n2 => ?_⟩
      rw [flatR, Int.toNat_natCast, tl]
      refine q p2 _ (u1.free n2) (u1.trans (Same.new _ n2)) ?_
      rw [upd_same, List.map_replicate]
    walk_at "rd"
    refine rep _ _ s1 fun la H2 na s2 ea => h2 _ _ (cutS fun N3 h3 => ?_)
    have s12 := s1.trans s2
    have na0 := s1.free na
    have nwa : lw ≠ la := ne_of_none ew na
    walk_at "rd"
    refine rep _ _ s12 fun ld H3 nd s3 ed => h3 _ _ (cutS fun N4 h4 => ?_)
    have s13 := s12.trans s3
    have nd0 := s12.free nd
    have nal : la ≠ ld := ne_of_none ea nd
    have ea := s3 _ _ ea
    have ew := (s2.trans s3) _ _ ew
    have nwd : lw ≠ ld := ne_of_none (s2 _ _ (by assumption)) nd
    clear h1 h2 h3 s1 s2 s3 s12 na nd rep
    walk_at "rd"
    obtain ⟨q0, v0, e0, f0, f1, f2⟩ := pa.get (i := 0) (x := V.ref (qs.headD 0)) (by
      cases qs with
      | nil => simp at ql
      | cons a l => rfl)
    cases (show v0 = r by simpa using f1.symm)
    have lw0 : (wgtL m rs r par dep).length = m.toNat := by unfold wgtL; exact foL_len
    refine ixL (s13 _ _ ho) (atI_int (by decide) (v := V.ref q0) (by rw [show (0 : Int).toNat = 0 from rfl, List.getElem?_map, f0]; rfl)) (ixT (s13 _ _ f2) rfl (setR ed r0 (by rw [List.length_map, List.length_replicate]; omega) (h4 _ _ (cutS fun N5 h5 => ?_))))
    have s14 := s13.put nd0 (.lst (((List.replicate m.toNat (0 : Int)).map V.int).set r.toNat (V.int (w - 1))))
    have ed4 : upd H3 ld (.lst (((List.replicate m.toNat (0 : Int)).map V.int).set r.toNat (V.int (w - 1)))) ld = some (.lst (((List.replicate m.toNat (0 : Int)).set r.toNat (w - 1)).map V.int)) := by rw [upd_same, ← List.map_set]
    have ea4 : upd H3 ld (.lst (((List.replicate m.toNat (0 : Int)).map V.int).set r.toNat (V.int (w - 1)))) la = some (.lst ((List.replicate m.toNat (0 : Int)).map V.int)) := by rw [upd_ne nal]; exact ea
    have ew4 : upd H3 ld (.lst (((List.replicate m.toNat (0 : Int)).map V.int).set r.toNat (V.int (w - 1)))) lw = some (.lst ((wgtL m rs r par dep).map V.int)) := by rw [upd_ne nwd]; exact ew
    generalize upd H3 ld (.lst (((List.replicate m.toNat (0 : Int)).map V.int).set r.toNat (V.int (w - 1)))) = H4 at s14 ed4 ea4 ew4 ⊢
    clear h4 ed ea ew s13
    walk_at "rd"
    refine h5 _ _ (cutS fun N6 h6 => ?_)
    walk_at "rd"
    refine ⟨⟨_, SqL.of (s14 _ _ ho)⟩, ?_⟩
    refine for_listH (K := K) (xs := qs.map V.ref) (fun i σ H5 => Same H H5 ∧ H5 lw = some (.lst ((wgtL m rs r par dep).map V.int)) ∧ ∃ (xs ys : List Int) (rest : Int) (v8 v9 v10 v11 v12 v13 v14 : Option V), H5 la = some (.lst (xs.map V.int)) ∧ H5 ld = some (.lst (ys.map V.int)) ∧ (xs.length : Int) = m ∧ (ys.length : Int) = m ∧ (∀ x ∈ xs, 0 ≤ x ∧ x < 2 ^ 720) ∧ (∀ y ∈ ys, 0 ≤ y ∧ y < (bdS i : Int)) ∧ σ = [some (V.ref dt), some (V.ref lo), some (V.int w), some (V.int cell), some (V.ref lw), some (V.ref la), some (V.ref ld), some (V.int rest), v8, v9, v10, v11, v12, v13, v14]) ⟨s14, ew4, _, _, _, _, _, _, _, _, _, _, ea4, ed4, by rw [List.length_replicate]; omega, by rw [List.length_set, List.length_replicate]; omega, ?_, ?_, rfl⟩ (fun i σ H5 _ z => SqL.of (z.1 _ _ ho)) ?_ ?_
    · intro x hx
      rw [List.eq_of_mem_replicate hx]
      exact ⟨Int.le_refl _, by decide +kernel⟩
    · intro y hy
      rw [show bdS 0 = 10 ^ 60 from rfl]
      rcases List.mem_or_eq_of_mem_set hy with hy | rfl
      · rw [List.eq_of_mem_replicate hy]
        exact ⟨Int.le_refl _, by decide⟩
      · exact ⟨by omega, by omega⟩
    · rintro i x σ H5 N BB hBB hN hx ⟨s5, ew5, xs, ys, rest, v8, v9, v10, v11, v12, v13, v14, ea5, ed5, xl, yl, x0, y0, rfl⟩
      refine hBB _ _ ?_
      obtain ⟨q, v, rfl, hq1, hv1, e5⟩ := pa.get hx
      walk_at "rd"
      refine ⟨_, SqT.of (s5 _ _ e5), rfl, _, _, rfl, _, _, rfl, rfl, ?_⟩
      have vr : 0 ≤ v ∧ v < m := by
        rcases List.mem_cons.mp (List.mem_of_getElem? hv1) with h | h
        · rw [h]; exact ⟨r0, r1⟩
        · exact O.rng v h
      have il := (List.getElem?_eq_some_iff.mp hv1).1
      rw [List.length_cons] at il
      refine ⟨⟨_, SqL.of (s5 _ _ ho)⟩, fun pk npk => ?_⟩
      -- the kids
      refine comp_any (K := K) (c := true) (a := lo) (xs := qs.map V.ref) (fun j zs σ H6 => Same H5 H6 ∧ H6 pk = some (.lst zs) ∧ (∃ ks : List Int, zs = ks.map V.int ∧ ks.length ≤ j ∧ ∀ u ∈ ks, (0 ≤ u ∧ u < m) ∧ u ≠ r ∧ par u = v) ∧ ∃ v0, σ = [v0, some (V.int v)]) ⟨Same.new _ npk, upd_same, ⟨[], rfl, Nat.zero_le _, fun u h => nomatch h⟩, _, rfl⟩ (fun j zs σ H6 _ ⟨z, _⟩ => SqL.of (z _ _ (s5 _ _ ho))) ?_ ?_
      · rintro j y zs σ H6 N' hN' hj ⟨s6, e6, ⟨ks, rfl, kl, kg⟩, v0, rfl⟩
        obtain ⟨q', u, rfl, hq2, hu2, e7⟩ := pa.get hj
        have ur : (0 ≤ u ∧ u < m) := by
          rcases List.mem_cons.mp (List.mem_of_getElem? hu2) with h | h
          · rw [h]; exact ⟨r0, r1⟩
          · exact O.rng u h
        have jl := (List.getElem?_eq_some_iff.mp hu2).1
        rw [List.length_cons] at jl
        have e8 := s6 _ _ (s5 _ _ e7)
        walk_at "rd"
        refine ixT e8 (v := Pb.front r par u) rfl ?_
        by_cases cu : u = r
        · have fv : Pb.front r par u = V.non := by unfold Pb.front; rw [if_pos cu]
          rw [fv]
          refine ⟨by simp [scal], ?_⟩
          rw [if_neg (by intro z; cases z)]
          exact hN' _ _ _ ⟨s6, e6, ⟨ks, rfl, by omega, kg⟩, _, rfl⟩
        · have fv : Pb.front r par u = V.int (par u) := by unfold Pb.front; rw [if_neg cu]
          rw [fv]
          refine ⟨by simp [scal], ?_⟩
          by_cases cp : par u = v
          · rw [if_pos (by rw [cp])]
            refine ixT e8 rfl ⟨e6, small (by rw [List.length_map]; omega), hN' _ _ _ ⟨s6.put npk _, upd_same, ⟨ks ++ [u], by rw [List.map_append]; rfl, by rw [List.length_append]; exact Nat.succ_le_succ kl, ?_⟩, _, rfl⟩⟩
            intro x hx
            rcases List.mem_append.mp hx with hx | hx
            · exact kg x hx
            · rw [List.mem_singleton.mp hx]; exact ⟨ur, cu, cp⟩
          · rw [if_neg (by intro z; injection z; contradiction)]
            exact hN' _ _ _ ⟨s6, e6, ⟨ks, rfl, by omega, kg⟩, _, rfl⟩
      · rintro zs σ H6 ⟨s6, e6, ⟨ks, rfl, kl, kg⟩, v0, rfl⟩
        rw [List.length_map, ql] at kl
        have s56 := s5.trans s6
        have ew6 := s6 _ _ ew5
        have ed6 := s6 _ _ ed5
        have ea6 := s6 _ _ ea5
        have npkd : pk ≠ ld := fun z => by rw [z, ed5] at npk; cases npk
        have npka : pk ≠ la := fun z => by rw [z, ea5] at npk; cases npk
        refine ⟨pk, rfl, ⟨_, SqL.of e6⟩, fun ph nph => ?_⟩
        -- the heavy ones
        have toll : ∀ (H8 : Hp) (u : Int), Same H H8 → (0 ≤ u ∧ u < m) → u ≠ r → par u = v → ∃ kk, 2 ≤ kk ∧ kk ≤ 1000000 ∧ ∀ q', H8 q' = none → DGet (upd H8 q' (.tup [V.int u, V.int v])) dt (V.ref q') (some (V.int kk)) := by
          intro H8 u s8 ur un up
          obtain ⟨kd, hd, d0, d1⟩ := toll_up g R ur.1 ur.2 un
          rw [up] at hd
          refine ⟨kd, d0, d1, fun q' nq' => ?_⟩
          have s9 := Same.new (.tup [V.int u, V.int v]) nq'
          obtain ⟨kvs, hkv, hv2⟩ := (ta.same s8).ex
          have hg := DGet.t (k := [.inl u, .inl v]) (s9 _ _ hkv) upd_same
          rw [hv2, hd] at hg
          exact hg
        refine comp_any (K := K) (c := true) (a := pk) (xs := ks.map V.int) (fun j zs σ H7 => Same H6 H7 ∧ H7 ph = some (.lst zs) ∧ (∃ hs : List Int, zs = hs.map V.int ∧ hs.length ≤ j) ∧ ∃ v0, σ = [v0, some (V.ref lw), some (V.int v), some (V.ref dt)]) ⟨Same.new _ nph, upd_same, ⟨[], rfl, Nat.zero_le _⟩, _, rfl⟩ (fun j zs σ H7 _ ⟨z, _⟩ => SqL.of (z _ _ e6)) ?_ ?_
        · rintro j y zs σ H7 N' hN' hj ⟨s7, e7, ⟨hs, rfl, hl⟩, v0, rfl⟩
          obtain ⟨u, hu, rfl⟩ := List.getElem?_map_some hj
          obtain ⟨ur, un, up⟩ := kg u (List.mem_of_getElem? hu)
          have jl := (List.getElem?_eq_some_iff.mp hu).1
          walk_at "rd"
          have ew7 := s7 _ _ ew6
          obtain ⟨kk, k0, k1, dg⟩ := toll H7 u (s56.trans s7) ur un up
          refine ixL ew7 (atG ur.1 (by omega)) ⟨smallE (by simp), fun q' nq' => ⟨_, dg q' nq', _, rfl, _, rfl, CMul.ok (.inr ⟨by omega, by omega⟩), ?_⟩⟩
          have s9 := Same.new (.tup [V.int u, V.int v]) nq'
          generalize upd H7 q' (.tup [V.int u, V.int v]) = H9 at s9 ⊢
          refine ixL (s9 _ _ ew7) (atG vr.1 (by omega)) ⟨by simp [scal], ?_⟩
          have n9 : Same H6 H9 := s7.trans s9
          split
          · exact ⟨s9 _ _ e7, small (by rw [List.length_map]; omega), hN' _ _ _ ⟨n9.put nph _, upd_same, ⟨hs ++ [u], by rw [List.map_append]; rfl, by rw [List.length_append]; exact Nat.succ_le_succ hl⟩, _, rfl⟩⟩
          · exact hN' _ _ _ ⟨n9, s9 _ _ e7, ⟨hs, rfl, by omega⟩, _, rfl⟩
        · rintro zs σ H7 ⟨s7, e7, ⟨hs, rfl, hl⟩, v0, rfl⟩
          rw [List.length_map] at hl
          have nphd : ph ≠ ld := fun z => by rw [z, ed6] at nph; cases nph
          have npha : ph ≠ la := fun z => by rw [z, ea6] at nph; cases nph
          have ew7 := s7 _ _ ew6
          have ed7 := s7 _ _ ed6
          have ea7 := s7 _ _ ea6
          have ek7 := s7 _ _ e6
          have s57 := s56.trans s7
          refine ixL ed7 (atG vr.1 (by omega)) ⟨pk, rfl, ⟨_, SqL.of ek7⟩, ?_⟩
          obtain ⟨l0, l1⟩ : 0 ≤ ys.getD v.toNat 0 ∧ ys.getD v.toNat 0 < (bdS i : Int) := by
            rw [List.getD]
            cases e : ys[v.toNat]? with
            | none => exact ⟨Int.le_refl _, by have := bdS_pos i; show (0 : Int) < _; omega⟩
            | some y => exact y0 y (List.mem_of_getElem? e)
          have BB0 := bdS_succ i
          have bi : bdS i < 2 ^ 700 := Nat.lt_of_le_of_lt (bdS_le (i := i) (by omega)) bdS_24
          generalize bdS (i + 1) = B1 at BB0 hN
          generalize bdS i = B at BB0 l1 y0 bi
          refine for_listH (K := K) (xs := ks.map V.int) (fun j σ H8 => Same H H8 ∧ H8 lw = some (.lst ((wgtL m rs r par dep).map V.int)) ∧ H8 la = some (.lst (xs.map V.int)) ∧ H8 pk = some (.lst (ks.map V.int)) ∧ H8 ph = some (.lst (hs.map V.int)) ∧ ∃ (zs : List Int) (rest left : Int) (v13 v14 : Option V), H8 ld = some (.lst (zs.map V.int)) ∧ (zs.length : Int) = m ∧ (∀ y ∈ zs, 0 ≤ y ∧ y < (B1 : Int)) ∧ 0 ≤ left ∧ left < (B : Int) ∧ σ = [some (V.ref dt), some (V.ref lo), some (V.int w), some (V.int cell), some (V.ref lw), some (V.ref la), some (V.ref ld), some (V.int rest), some (V.int v), some (Pb.front r par v), some (V.ref pk), some (V.ref ph), some (V.int left), v13, v14]) ⟨s57, ew7, ea7, ek7, e7, ys, _, _, _, _, ed7, yl, (fun y hy => ⟨(y0 y hy).1, by have := (y0 y hy).2; omega⟩), l0, l1, rfl⟩ (fun j σ H8 _ z => SqL.of z.2.2.2.1) ?_ ?_
          · rintro j x σ H8 N2 CC hCC hN2 hj ⟨s8, ew8, ea8, ek8, eh8, zs, rest', left, v13', v14', ed8, zl, z0, lf0, lf1, rfl⟩
            obtain ⟨u, hu, rfl⟩ := List.getElem?_map_some hj
            obtain ⟨ur, un, up⟩ := kg u (List.mem_of_getElem? hu)
            refine hCC _ _ (cutS fun M1 k1 => ?_)
            walk_at "rd"
            refine k1 _ _ (cutS fun M2 k2 => ?_)
            have fin : ∀ (gives rest2 : Int), 0 ≤ gives → gives ≤ left → M2 [some (V.ref dt), some (V.ref lo), some (V.int w), some (V.int cell), some (V.ref lw), some (V.ref la), some (V.ref ld), some (V.int rest2), some (V.int v), some (Pb.front r par v), some (V.ref pk), some (V.ref ph), some (V.int left), some (V.int u), some (V.int gives)] H8 := by
              intro gives rest2 g0 g1
              refine k2 _ _ ?_
              walk_at "rd"
              obtain ⟨kk, k0, k1, dg⟩ := toll H8 u s8 ur un up
              refine ⟨smallE (by simp), fun q' nq' => ⟨_, dg q' nq', _, rfl, .inl ⟨by omega, by omega⟩, ?_⟩⟩
              have s9 := Same.new (.tup [V.int u, V.int v]) nq'
              generalize upd H8 q' (.tup [V.int u, V.int v]) = H9 at s9 ⊢
              have s89 := s8.trans s9
              have mul1 : kk * (gives + 1) ≤ 1000000 * B := Int.mul_le_mul k1 (by omega) (by omega) (by omega)
              have mul0 : 1 * 1 ≤ kk * (gives + 1) := Int.mul_le_mul (by omega) (by omega) (by omega) (by omega)
              refine setR (s9 _ _ ed8) ur.1 (by rw [List.length_map]; omega) (hN2 _ _ ⟨s89.put nd0 _, by rw [upd_ne nwd]; exact s9 _ _ ew8, by rw [upd_ne nal]; exact s9 _ _ ea8, by rw [upd_ne npkd]; exact s9 _ _ ek8, by rw [upd_ne nphd]; exact s9 _ _ eh8, zs.set u.toNat (kk * (gives + 1) - 1), _, _, _, _, by rw [upd_same, ← List.map_set], by rw [List.length_set]; exact zl, ?_, ?_, ?_, rfl⟩)
              · intro y hy
                rcases List.mem_or_eq_of_mem_set hy with hy | rfl
                · exact z0 y hy
                · constructor <;> omega
              · omega
              · omega
            walk_at "rd"
            refine ⟨ph, _, rfl, .inl (SqL.of eh8), rfl, flat_ints _, _, rfl, ?_⟩
            by_cases ci : inV (V.int u) (hs.map V.int) = true
            · rw [if_pos (by simpa using ci)]
              have hne : hs ≠ [] := fun z => by rw [z] at ci; simp [inV] at ci
              obtain ⟨hs', z, ehs⟩ : ∃ hs' z, hs = hs' ++ [z] := ⟨_, _, (List.dropLast_concat_getLast hne).symm⟩
              have ez : atI (hs.map V.int) (-1) = some (V.int z) := by rw [ehs, List.map_append]; exact atI_last _ _
              refine ixL eh8 ez ⟨by simp [scal], ?_⟩
              have p0 : (0 : Int) < left + 1 := by omega
              split
              · have q0 := Int.emod_nonneg rest' (Int.ne_of_gt p0)
                have q1 := Int.emod_lt_of_pos rest' p0
                exact ⟨p0, ⟨p0, log_bits (n := 700) (by omega) (by omega) (by decide)⟩, fin _ _ q0 (by omega)⟩
              · exact fin left _ lf0 (Int.le_refl _)
            · rw [if_neg (by simpa using ci)]
              exact fin 0 _ (Int.le_refl _) lf0
          · rintro CC σ H8 hCC ⟨s8, ew8, ea8, ek8, eh8, zs, rest', left, v13', v14', ed8, zl, z0, lf0, lf1, rfl⟩
            refine hCC _ _ ?_
            walk_at "rd"
            refine ⟨smallE (by simp), fun pe ne => ?_⟩
            have se := Same.new (.lst []) ne
            refine ⟨_, _, .lst (SqL.of (se _ _ ek8)) (deep_intsAll ks), .lst (SqL.of upd_same) .nil, ?_, _, rfl, ?_⟩
            · have := depth_intsAll ks
              simp only [PyData.depth, PyData.depthAll]
              omega
            have z0' : ∀ y ∈ zs, 0 ≤ y ∧ y < (B1 : Int) := z0
            split
            · refine ixL (se _ _ ed8) (atG vr.1 (by omega)) (setR (se _ _ ea8) vr.1 (by rw [List.length_map]; omega) (hN _ _ ⟨(s8.trans se).put na0 _, by rw [upd_ne nwa]; exact se _ _ ew8, xs.set v.toNat (zs.getD v.toNat 0), zs, _, _, _, _, _, _, _, _, by rw [upd_same, ← List.map_set], by rw [upd_ne nal.symm]; exact se _ _ ed8, by rw [List.length_set]; exact xl, zl, ?_, z0', rfl⟩))
              intro x hx
              rcases List.mem_or_eq_of_mem_set hx with hx | rfl
              · exact x0 x hx
              · rw [List.getD]
                cases e : zs[v.toNat]? with
                | none => exact ⟨Int.le_refl _, by show (0 : Int) < 2 ^ 720; decide +kernel⟩
                | some y =>
                  have h1 := z0 y (List.mem_of_getElem? e)
                  refine ⟨h1.1, Int.lt_trans h1.2 ?_⟩
                  have h3 : B * 1000000 < 2 ^ 700 * 1000000 := (Nat.mul_lt_mul_right (by decide)).mpr bi
                  have h4 : (2 : Nat) ^ 700 * 1000000 ≤ 2 ^ 720 := by decide +kernel
                  rw [show (2 : Int) ^ 720 = ((2 ^ 720 : Nat) : Int) from (Int.natCast_pow 2 720).symm]
                  omega
            · exact hN _ _ ⟨s8.trans se, se _ _ ew8, xs, zs, _, _, _, _, _, _, _, _, se _ _ ea8, se _ _ ed8, xl, zl, x0, z0', rfl⟩
    · rintro BB σ H5 hBB ⟨s5, ew5, xs, ys, rest, v8, v9, v10, v11, v12, v13, v14, ea5, ed5, xl, yl, x0, y0, rfl⟩
      refine hBB _ _ (h6 _ _ ?_)
      walk_at "rd"
      refine ⟨smallE (by simp), fun tq nt => ?_⟩
      have sn := Same.new (.tup [V.ref la, V.ref ld]) nt
      exact k tq la ld xs ys _ na0 (s5.trans sn) upd_same (sn _ _ ea5) xl x0
/-! #### _law_wanted -/
def sp_law_wanted (T : Txt K mg) : Sp := fun vs H Q _ => ∃ (c : Int), vs = [.int c] ∧ ∀ t H', Same H H' → 1 ≤ t → t ≤ 10 ^ 60 → Q (.int t) H'
abbrev s_law_wanted : Stmt := top 43
theorem sc_law_wanted : FnScope ["cell", "rest"] ["cell"] (defScope s_law_wanted) := FnScope.of (by kernel_rfl)
theorem n_law_wanted__cell : NmL (defScope s_law_wanted) "cell" := .of (by kernel_rfl)
theorem n_law_wanted__rest : NmL (defScope s_law_wanted) "rest" := .of (by kernel_rfl)

theorem ok_law_wanted (T : Txt K mg) (hq : Quiet (CXe P w)) {f : Addr} {fd : FuncData} (D : Df K mg "_law_wanted" s_law_wanted ["cell"] f fd) : FnOk P w K mg base (CXe P w) 1 f fd ["cell"] (sp_law_wanted T) := by
  refine D.F.okC sc_law_wanted (fun vs H Q E h => ?_) (fun cdv A outer s H vs Q E hr h => ?_)
  · obtain ⟨c, rfl, _⟩ := h
    rfl
  · obtain ⟨c, rfl, k⟩ := h
    refine ⟨_, (pss_cons (ps_set (i := 1) sc_law_wanted.nd rfl (Or.inl n_law_wanted__rest.l) (pe_op op_fdiv (pvl 0 n_law_wanted__cell) pe_int)) (pss_one (ps_ret (pe_op op_add pe_int (pe_ix ix_list (pe_lst (pa_cons (pe_op op_mod (pvl 1 n_law_wanted__rest) pe_int) (pa_cons (pe_op op_mod (pvl 1 n_law_wanted__rest) pe_int) (pa_cons (pe_op op_mod (pvl 1 n_law_wanted__rest) pe_int) (pa_cons (pe_op op_mod (pvl 1 n_law_wanted__rest) (pe_op op_sub (pe_op op_pow pe_int pe_int) pe_int)) pa_nil))))) (pe_op op_mod (pvl 0 n_law_wanted__cell) pe_int) (fun _ _ => rfl)))))), ?_⟩
    rw [show L2.start ["cell", "rest"] [V.int c] = [some (V.int c), none] from rfl]
    have em : ∀ (x n : Int), 0 < n → 0 ≤ x % n ∧ x % n < n := fun x n h => ⟨Int.emod_nonneg x (Int.ne_of_gt h), Int.emod_lt_of_pos x h⟩
    have e60 : (10 : Int) ^ Int.toNat 60 - 1 = 999999999999999999999999999999999999999999999999999999999999 := by decide +kernel
    have e60' : (10 : Int) ^ 60 = 1000000000000000000000000000000000000000000000000000000000000 := by decide +kernel
    rw [e60'] at k
    walk_at "rd"
    refine ⟨⟨by decide, by decide⟩, by decide, by decide, by decide, ⟨by decide, by decide, by decide⟩, by decide +kernel, smallE (by simp), fun q nq => ⟨by decide, ?_⟩⟩
    rw [e60]
    have b1 := em (c / 4) 3 (by decide)
    have b2 := em (c / 4) 12 (by decide)
    have b3 := em (c / 4) 1000 (by decide)
    have b4 := em (c / 4) 999999999999999999999999999999999999999999999999999999999999 (by decide)
    generalize c / 4 % 3 = x1 at b1 ⊢
    generalize c / 4 % 12 = x2 at b2 ⊢
    generalize c / 4 % 1000 = x3 at b3 ⊢
    generalize c / 4 % 999999999999999999999999999999999999999999999999999999999999 = x4 at b4 ⊢
    obtain ⟨w, hw, w0, w1⟩ : ∃ w : Int, atI [V.int x1, V.int x2, V.int x3, V.int x4] (c % 4) = some (.int w) ∧ 0 ≤ w ∧ w < 999999999999999999999999999999999999999999999999999999999999 := by
      rcases (show c % 4 = 0 ∨ c % 4 = 1 ∨ c % 4 = 2 ∨ c % 4 = 3 by omega) with z | z | z | z
      · exact ⟨_, by rw [z]; rfl, b1.1, by omega⟩
      · exact ⟨_, by rw [z]; rfl, b2.1, by omega⟩
      · exact ⟨_, by rw [z]; rfl, b3.1, by omega⟩
      · exact ⟨_, by rw [z]; rfl, b4.1, b4.2⟩
    refine ixL upd_same hw ⟨_, rfl, k _ _ (Same.new _ nq) (by omega) (by omega)⟩
/-! #### _law_toll -/
def sp_law_toll (T : Txt K mg) : Sp := fun vs H Q _ => ∃ (c : Int), vs = [.int c] ∧ ∀ t, 2 ≤ t → t ≤ 1000000 → Q (.int t) H
abbrev s_law_toll : Stmt := top 36
theorem sc_law_toll : FnScope ["rest"] ["rest"] (defScope s_law_toll) := FnScope.of (by kernel_rfl)
theorem n_law_toll__rest : NmL (defScope s_law_toll) "rest" := .of (by kernel_rfl)

theorem ok_law_toll (T : Txt K mg) (hq : Quiet (CXe P w)) {f : Addr} {fd : FuncData} (D : Df K mg "_law_toll" s_law_toll ["rest"] f fd) : FnOk P w K mg base (CXe P w) 1 f fd ["rest"] (sp_law_toll T) := by
  refine D.F.okC sc_law_toll (fun vs H Q E h => ?_) (fun cdv A outer s H vs Q E hr h => ?_)
  · obtain ⟨c, rfl, _⟩ := h
    rfl
  · obtain ⟨c, rfl, k⟩ := h
    refine ⟨_, (pss_cons (ps_if (pt_cmpR op_eq (pe_op op_mod (pvl 0 n_law_toll__rest) pe_int) pe_int (nomark _)) (pss_one (ps_ret (pe_op op_add pe_int (pe_op op_mod (pe_op op_fdiv (pvl 0 n_law_toll__rest) pe_int) pe_int)))) pss_nil) (pss_one (ps_ret (pe_op op_add pe_int (pe_op op_mod (pe_op op_fdiv (pvl 0 n_law_toll__rest) pe_int) pe_int))))), ?_⟩
    rw [show L2.start ["rest"] [V.int c] = [some (V.int c)] from rfl]
    walk_at "rd"
    have a1 := Int.emod_nonneg (c / 8) (show (999999 : Int) ≠ 0 by decide)
    have a2 := Int.emod_lt_of_pos (c / 8) (show (0 : Int) < 999999 by decide)
    have a3 := Int.emod_nonneg (c / 8) (show (3 : Int) ≠ 0 by decide)
    have a4 := Int.emod_lt_of_pos (c / 8) (show (0 : Int) < 3 by decide)
    refine ⟨by decide, ?_⟩
    by_cases z : c % 8 = 0
    · rw [if_pos z]
      exact ⟨⟨by decide, by decide⟩, by decide, k _ (by omega) (by omega)⟩
    · rw [if_neg z]
      exact ⟨⟨by decide, by decide⟩, by decide, k _ (by omega) (by omega)⟩
/-! #### _law_web -/
def sp_law_web (T : Txt K mg) : Sp := fun vs H Q _ => ∃ (a : Addr) (ns : List Int), vs = [.ref a] ∧ H a = some (.lst (ns.map V.int)) ∧ 25 ≤ ns.length ∧ ns.length ≤ 1000 ∧
  ∀ (t l : Addr) (m : Int) (ps : List Addr) (rs : List Road) (H' : Hp), H t = none → H l = none → Same H H' → H' t = some (.tup [.int m, .ref l]) → H' l = some (.lst (ps.map V.ref)) → RoadsAt H' ps rs → Good m rs → Q (.ref t) H'
abbrev s_law_web : Stmt := top 37
theorem sc_law_web : FnScope ["numbers", "head", "many", "names", "k", "roads", "rest", "near", "there", "back", "road"] ["numbers"] (defScope s_law_web) := FnScope.of (by kernel_rfl)
theorem n_law_web__numbers : NmL (defScope s_law_web) "numbers" := .of (by kernel_rfl)
theorem n_law_web__head : NmL (defScope s_law_web) "head" := .of (by kernel_rfl)
theorem n_law_web__many : NmL (defScope s_law_web) "many" := .of (by kernel_rfl)
theorem n_law_web__names : NmL (defScope s_law_web) "names" := .of (by kernel_rfl)
theorem n_law_web__k : NmL (defScope s_law_web) "k" := .of (by kernel_rfl)
theorem n_law_web__roads : NmL (defScope s_law_web) "roads" := .of (by kernel_rfl)
theorem n_law_web__rest : NmL (defScope s_law_web) "rest" := .of (by kernel_rfl)
theorem n_law_web__near : NmL (defScope s_law_web) "near" := .of (by kernel_rfl)
theorem n_law_web__there : NmL (defScope s_law_web) "there" := .of (by kernel_rfl)
theorem n_law_web__back : NmL (defScope s_law_web) "back" := .of (by kernel_rfl)
theorem n_law_web__road : NmL (defScope s_law_web) "road" := .of (by kernel_rfl)
theorem n_law_web__range : NmG (defScope s_law_web) "range" := .of (by kernel_rfl)
theorem n_law_web__law_toll : NmG (defScope s_law_web) "_law_toll" := .of (by kernel_rfl)
theorem n_law_web__len : NmG (defScope s_law_web) "len" := .of (by kernel_rfl)

theorem ok_law_web (T : Txt K mg) (hq : Quiet (CXe P w)) {f : Addr} {fd : FuncData} (D : Df K mg "_law_web" s_law_web ["numbers"] f fd) {f_law_toll : Addr} {fd_law_toll : FuncData} (D_law_toll : Df K mg "_law_toll" s_law_toll ["rest"] f_law_toll fd_law_toll) (G_law_toll : FnOk P w K mg base (CXe P w) 1 f_law_toll fd_law_toll ["rest"] (sp_law_toll T)) : FnOk P w K mg base (CXe P w) 2 f fd ["numbers"] (sp_law_web T) := by
  refine D.F.okC sc_law_web (fun vs H Q E h => ?_) (fun cdv A outer s H vs Q E hr h => ?_)
  · obtain ⟨a, ns, rfl, _⟩ := h
    rfl
  · obtain ⟨a, ns, rfl, ha, n25, n1, k⟩ := h
    refine ⟨_, (pss_cons (ps_set (i := 1) sc_law_web.nd rfl (Or.inl n_law_web__head.l) (pe_ix ix_list (pvl 0 n_law_web__numbers) pe_int (fun _ _ => rfl))) (pss_cons (ps_set (i := 2) sc_law_web.nd rfl (Or.inl n_law_web__many.l) (pe_op op_add pe_int (pe_op op_mod (pvl 1 n_law_web__head) pe_int))) (pss_cons (ps_if (pt_cmpR op_eq (pe_op op_mod (pe_op op_fdiv (pvl 1 n_law_web__head) pe_int) pe_int) pe_int (nomark _)) (pss_one (ps_set (i := 2) sc_law_web.nd rfl (Or.inl n_law_web__many.l) (pe_op op_add pe_int (pe_op op_mod (pe_op op_fdiv (pvl 1 n_law_web__head) pe_int) pe_int)))) pss_nil) (pss_cons (ps_set (i := 3) sc_law_web.nd rfl (Or.inl n_law_web__names.l) (pe_lst pa_nil)) (pss_cons (ps_for PassesOwn.never rfl (pi_range1 n_law_web__range.g T.range (pa_cons (pvl 2 n_law_web__many) pa_nil)) (pg_name (i := 4) sc_law_web.nd rfl (Or.inl n_law_web__k.l)) (pss_one (ps_expr (pe_bm PySem.F.plainAttrs_list PySem.F.slot_list_insert PySem.F.type_list_insert mt_insert (pvl 3 n_law_web__names) (pa_cons (pe_op op_mod (pe_ix ix_list (pvl 0 n_law_web__numbers) (pe_op op_add (pvl 4 n_law_web__k) pe_int) (fun _ _ => rfl)) (pe_op op_add (pvl 4 n_law_web__k) pe_int)) (pa_cons (pvl 4 n_law_web__k) pa_nil)))))) (pss_cons (ps_set (i := 5) sc_law_web.nd rfl (Or.inl n_law_web__roads.l) (pe_lst pa_nil)) (pss_cons (ps_for PassesOwn.never rfl (pi_range2 n_law_web__range.g T.range (pa_cons pe_int (pa_cons (pvl 2 n_law_web__many) pa_nil))) (pg_name (i := 4) sc_law_web.nd rfl (Or.inl n_law_web__k.l)) (pss_cons (ps_set (i := 6) sc_law_web.nd rfl (Or.inl n_law_web__rest.l) (pe_op op_fdiv (pe_ix ix_list (pvl 0 n_law_web__numbers) (pe_op op_add (pvl 4 n_law_web__k) pe_int) (fun _ _ => rfl)) (pe_op op_add (pvl 4 n_law_web__k) pe_int))) (pss_cons (ps_set (i := 7) sc_law_web.nd rfl (Or.inl n_law_web__near.l) (pe_ix ix_list (pe_lst (pa_cons (pe_op op_sub (pvl 4 n_law_web__k) pe_int) (pa_cons pe_int (pa_cons (pe_op op_mod (pvl 6 n_law_web__rest) (pvl 4 n_law_web__k)) (pa_cons (pe_op op_mod (pvl 6 n_law_web__rest) (pvl 4 n_law_web__k)) pa_nil))))) (pe_op op_mod (pe_op op_fdiv (pvl 1 n_law_web__head) pe_int) pe_int) (fun _ _ => rfl))) (pss_cons (ps_set (i := 6) sc_law_web.nd rfl (Or.inl n_law_web__rest.l) (pe_op op_fdiv (pvl 6 n_law_web__rest) (pvl 4 n_law_web__k))) (pss_cons (ps_set (i := 8) sc_law_web.nd rfl (Or.inl n_law_web__there.l) (pe_call G_law_toll (hr.mono (by decide)) n_law_web__law_toll.g D_law_toll.m D_law_toll.F.kp D_law_toll.b .nil (passQ hq) (pa_cons (pvl 6 n_law_web__rest) pa_nil) (hdb := n_law_web__law_toll.d))) (pss_cons (ps_set (i := 9) sc_law_web.nd rfl (Or.inl n_law_web__back.l) (pe_call G_law_toll (hr.mono (by decide)) n_law_web__law_toll.g D_law_toll.m D_law_toll.F.kp D_law_toll.b .nil (passQ hq) (pa_cons (pe_op op_fdiv (pvl 6 n_law_web__rest) pe_int) pa_nil) (hdb := n_law_web__law_toll.d))) (pss_cons (ps_if (pt_cmpR op_eq (pe_op op_mod (pe_op op_fdiv (pvl 1 n_law_web__head) pe_int) pe_int) pe_int (nomark _)) (pss_one (ps_set (i := 9) sc_law_web.nd rfl (Or.inl n_law_web__back.l) (pvl 8 n_law_web__there))) pss_nil) (pss_cons (ps_set (i := 6) sc_law_web.nd rfl (Or.inl n_law_web__rest.l) (pe_op op_fdiv (pe_op op_fdiv (pvl 6 n_law_web__rest) pe_int) pe_int)) (pss_cons (ps_set (i := 10) sc_law_web.nd rfl (Or.inl n_law_web__road.l) (pe_tup (pa_cons (pe_ix ix_list (pvl 3 n_law_web__names) (pvl 7 n_law_web__near) (fun _ _ => rfl)) (pa_cons (pe_ix ix_list (pvl 3 n_law_web__names) (pvl 4 n_law_web__k) (fun _ _ => rfl)) (pa_cons (pvl 8 n_law_web__there) (pa_cons (pvl 9 n_law_web__back) pa_nil)))))) (pss_cons (ps_if (pt_cmpR op_eq (pe_op op_mod (pvl 6 n_law_web__rest) pe_int) pe_int (nomark _)) (pss_one (ps_set (i := 10) sc_law_web.nd rfl (Or.inl n_law_web__road.l) (pe_tup (pa_cons (pe_ix ix_list (pvl 3 n_law_web__names) (pvl 4 n_law_web__k) (fun _ _ => rfl)) (pa_cons (pe_ix ix_list (pvl 3 n_law_web__names) (pvl 7 n_law_web__near) (fun _ _ => rfl)) (pa_cons (pvl 9 n_law_web__back) (pa_cons (pvl 8 n_law_web__there) pa_nil))))))) pss_nil) (pss_one (ps_expr (pe_bm PySem.F.plainAttrs_list PySem.F.slot_list_insert PySem.F.type_list_insert mt_insert (pvl 5 n_law_web__roads) (pa_cons (pe_op op_mod (pe_op op_fdiv (pvl 6 n_law_web__rest) pe_int) (pe_op op_add (pe_callB call_len_seq n_law_web__len.g T.len pb_len (pa_cons (pvl 5 n_law_web__roads) pa_nil) (hn := n_law_web__len.n) (hdb := n_law_web__len.d)) pe_int)) (pa_cons (pvl 10 n_law_web__road) pa_nil))))))))))))))) (pss_one (ps_ret (pe_tup (pa_cons (pvl 2 n_law_web__many) (pa_cons (pvl 5 n_law_web__roads) pa_nil)))))))))))), ?_⟩
    rw [show L2.start ["numbers", "head", "many", "names", "k", "roads", "rest", "near", "there", "back", "road"] [V.ref a] = [some (V.ref a), none, none, none, none, none, none, none, none, none, none] from rfl]
    have em : ∀ (x n : Int), 0 < n → 0 ≤ x % n ∧ x % n < n := fun x n h => ⟨Int.emod_nonneg x (Int.ne_of_gt h), Int.emod_lt_of_pos x h⟩
    walk_at "rd"
    refine ixL ha (atG (by decide) (by omega)) ?_
    generalize ns.getD (0 : Int).toNat 0 = c
    refine ⟨_, rfl, by decide, _, rfl, ⟨by decide, by decide⟩, by decide, ?_⟩
    have h1 := em c 7 (by decide)
    have h2 := em (c / 70) 17 (by decide)
    have h3 := em (c / 1190) 4 (by decide)
    apply if_join (8 + c / 70 % 17) (1 + c % 7)
    · generalize 1 + c % 7 = m
      intro h
      exact h
    · exact fun h => ⟨_, rfl, ⟨by decide, by decide⟩, by decide, h⟩
    intro m hm
    have m1 : 1 ≤ m := by omega
    have m24 : m ≤ 24 := by omega
    clear hm
    refine ⟨by decide, fun la nla => ⟨by omega, by omega, ?_⟩⟩
    refine for_rangeN (fun i σ H2 => Same H H2 ∧ (∃ row, H2 la = some (.lst (row.map V.int)) ∧ Labels i row) ∧ ∃ v, σ = [some (V.ref a), some (V.int c), some (V.int m), some (V.ref la), v, none, none, none, none, none, none]) ⟨Same.new _ nla, ⟨[], upd_same, .nil⟩, _, rfl⟩ ?_ ?_
    · rintro i σ H2 N hN hi ⟨s2, ⟨row, e2, L⟩, v, rfl⟩
      rw [Int.zero_add]
      have ll := L.len
      walk_at "rd"
      refine ⟨tyL e2, ixL (s2 _ _ ha) (atG (by omega) (by omega)) ⟨_, rfl, by omega, ?_⟩⟩
      have q := em (ns.getD ((i : Int) + 1).toNat 0) ((i : Int) + 1) (by omega)
      generalize ns.getD ((i : Int) + 1).toNat 0 % ((i : Int) + 1) = w at q ⊢
      refine insR e2 q.1 (by rw [List.length_map]; omega) (small (by rw [List.length_map]; omega)) ?_
      refine hN _ _ ⟨s2.put nla _, ⟨_, ?_, L.put w.toNat (by omega)⟩, _, rfl⟩
      rw [upd_same, List.map_append, List.map_cons, List.map_take, List.map_drop]
    · rintro σ H2 ⟨s2, ⟨ls, e2, L⟩, v, rfl⟩
      walk_at "rd"
      have L' : Labels m.toNat ls := L
      have ll := L'.len
      refine ⟨by decide, fun lo nlo => ⟨1, m, ⟨rfl, rfl⟩, ⟨by decide, by decide, by omega, by omega⟩, ?_⟩⟩
      have nlo0 := s2.free nlo
      have nll : la ≠ lo := fun z => by rw [← z, e2] at nlo; cases nlo
      refine for_rangeN (fun i σ H3 => ∃ (ps : List Addr) (rs : List Road) (rows : List Row) (v4 v6 v7 v8 v9 v10 : Option V), σ = [some (V.ref a), some (V.int c), some (V.int m), some (V.ref la), v4, some (V.ref lo), v6, v7, v8, v9, v10] ∧ Same H H3 ∧ H3 la = some (.lst (ls.map V.int)) ∧ H3 lo = some (.lst (ps.map V.ref)) ∧ RoadsAt H3 ps rs ∧ Rows i rows ∧ Put ls rows rs) ⟨[], [], [], _, _, _, _, _, _, rfl, s2.trans (Same.new _ nlo), Same.new _ nlo _ _ e2, upd_same, .nil, ⟨rfl, fun i r h => by cases h⟩, Put.nil _⟩ ?_ ?_
      · rintro i σ H3 N hN hi ⟨ps, rs, rows, v4, v6, v7, v8, v9, v10, rfl, s3, l3, o3, ro3, R, P⟩
        have k0 : (1 : Int) ≤ 1 + (i : Int) := by omega
        have k1 : 1 + (i : Int) < m := by omega
        generalize hk : (1 : Int) + (i : Int) = kk at k0 k1 ⊢
        have psl : ps.length = rs.length := Paired.length ro3
        have rl := R.len
        have pl := P.len
        walk_at "rd"
        refine ixL (s3 _ _ ha) (atG (by omega) (by omega)) ⟨_, rfl, ⟨by omega, by omega⟩, by omega, by omega, smallE (by simp), fun q1 nq1 => ⟨⟨by decide, by decide⟩, by decide, ?_⟩⟩
        generalize ns.getD (kk + 1).toNat 0 / (kk + 1) = w
        have hg := em w kk (by omega)
        obtain ⟨un, hun, u0, u1⟩ : ∃ un : Int, atI [V.int (kk - 1), V.int 0, V.int (w % kk), V.int (w % kk)] (c / 1190 % 4) = some (.int un) ∧ 0 ≤ un ∧ un < kk := by
          rcases (show c / 1190 % 4 = 0 ∨ c / 1190 % 4 = 1 ∨ c / 1190 % 4 = 2 ∨ c / 1190 % 4 = 3 by omega) with z | z | z | z
          · exact ⟨_, by rw [z]; rfl, by omega, by omega⟩
          · exact ⟨_, by rw [z]; rfl, by omega, by omega⟩
          · exact ⟨_, by rw [z]; rfl, hg.1, hg.2⟩
          · exact ⟨_, by rw [z]; rfl, hg.1, hg.2⟩
        have s4 := Same.new (.lst [.int (kk - 1), .int 0, .int (w % kk), .int (w % kk)]) nq1
        refine ixL upd_same hun ?_
        generalize upd H3 q1 (.lst [.int (kk - 1), .int 0, .int (w % kk), .int (w % kk)]) = H4 at s4 ⊢
        refine ⟨⟨by omega, by omega⟩, _, rfl, fun th t0 t1 => ⟨⟨by decide, by decide⟩, _, rfl, fun bk b0 b1 => ⟨⟨by decide, by decide⟩, by decide, ?_⟩⟩⟩
        have gk : atI (ls.map V.int) kk = some (.int (ls.getD kk.toNat 0)) := atI_int (by omega) (by rw [List.getElem?_map, getD_of L' (by omega)]; rfl)
        have gu : atI (ls.map V.int) un = some (.int (ls.getD un.toNat 0)) := atI_int u0 (by rw [List.getElem?_map, getD_of L' (by omega)]; rfl)
        have l4 := s4 _ _ l3
        generalize w / kk / 7999992 / 7999992 = rest
        have put : ∀ (H7 : Hp) (q : Addr) (row : Row) (v8 v9 : Option V), Same H3 H7 → row.k = kk → RowOk row → H7 q = some (.tup (vRoad (roadOf ls row))) → tyV K "list" (V.ref lo) H7 ∧ CDiv rest 2 ∧ ∃ x, (SqL K H7 lo x ∨ SqT K H7 lo x) ∧ 0 < (x.length : Int) + 1 ∧ rInsert (V.ref lo) [V.int (rest / 2 % ((x.length : Int) + 1)), V.ref q] H7 fun _ H8 => N [some (V.ref a), some (V.int c), some (V.int m), some (V.ref la), some (V.int kk), some (V.ref lo), some (V.int rest), some (V.int un), v8, v9, some (V.ref q)] H8 := by
          intro H7 q row v8 v9 s7 rk rok hq
          have o7 := s7 _ _ o3
          have pe := em (rest / 2) (((ps.map V.ref).length : Int) + 1) (by omega)
          refine ⟨tyL o7, ⟨by decide, by decide⟩, ps.map V.ref, .inl (SqL.of o7), by omega, insR o7 pe.1 (by omega) (small (by rw [List.length_map]; omega)) ?_⟩
          generalize (rest / 2 % (((ps.map V.ref).length : Int) + 1)).toNat = n
          have keep : ∀ {zs : List V} {q : Addr} {r' : Road}, H7 q = some (.tup (vRoad r')) → upd H7 lo (.lst zs) q = some (.tup (vRoad r')) := fun {zs q r'} h => by rw [upd_ne (ne_of h o7 (by intro z; cases z))]; exact h
          refine hN _ _ ⟨ps.take n ++ q :: ps.drop n, rs.take n ++ roadOf ls row :: rs.drop n, rows ++ [row], _, _, _, _, _, _, rfl, (s3.trans s7).put nlo0 _, by rw [upd_ne nll]; exact s7 _ _ l3, by rw [upd_same, List.map_append, List.map_cons, List.map_take, List.map_drop], ?_, rows_snoc R (by omega) rok, P.step row n⟩
          exact pr_ins n (Paired.imp' (fun p r h => keep h) (RoadsAt.same s7 ro3)) (keep hq)
        have okR : ∀ (x y z : Int), 2 ≤ x → x ≤ 1000000 → 2 ≤ y → y ≤ 1000000 → RowOk ⟨kk, un, x, y, z, 0⟩ := fun x y z a b c d => ⟨u0, u1, a, b, c, d, Int.le_refl _, by show (0 : Int) < kk; omega⟩
        have e1 : ∀ x y : Int, vRoad (roadOf ls ⟨kk, un, x, y, 1, 0⟩) = [V.int (ls.getD un.toNat 0), V.int (ls.getD kk.toNat 0), V.int x, V.int y] := fun x y => by unfold roadOf; rw [if_pos rfl]; rfl
        have e2' : ∀ x y : Int, vRoad (roadOf ls ⟨kk, un, x, y, 0, 0⟩) = [V.int (ls.getD kk.toNat 0), V.int (ls.getD un.toNat 0), V.int x, V.int y] := fun x y => by unfold roadOf; rw [if_neg (show ¬ (0 : Int) = 1 by decide)]; rfl
        by_cases y1 : c / 4760 % 3 = 0
        · rw [if_pos y1]
          refine ⟨⟨by decide, by decide⟩, ⟨by decide, by decide⟩, ixL l4 gu (ixL l4 gk ⟨smallE (by simp), fun q2 nq2 => ⟨by decide, ?_⟩⟩)⟩
          have s5 := s4.trans (Same.new (.tup [V.int (ls.getD un.toNat 0), V.int (ls.getD kk.toNat 0), V.int th, V.int th]) nq2)
          have l5 := s5 _ _ l3
          by_cases y2 : rest % 2 = 1
          · rw [if_pos y2]
            exact ixL l5 gk (ixL l5 gu ⟨smallE (by simp), fun q3 nq3 => put _ q3 ⟨kk, un, th, th, 0, 0⟩ _ _ (s5.trans (Same.new _ nq3)) rfl (okR _ _ _ t0 t1 t0 t1) (by rw [upd_same, e2'])⟩)
          · rw [if_neg y2]
            exact put _ q2 ⟨kk, un, th, th, 1, 0⟩ _ _ s5 rfl (okR _ _ _ t0 t1 t0 t1) (by rw [upd_same, e1])
        · rw [if_neg y1]
          refine ⟨⟨by decide, by decide⟩, ⟨by decide, by decide⟩, ixL l4 gu (ixL l4 gk ⟨smallE (by simp), fun q2 nq2 => ⟨by decide, ?_⟩⟩)⟩
          have s5 := s4.trans (Same.new (.tup [V.int (ls.getD un.toNat 0), V.int (ls.getD kk.toNat 0), V.int th, V.int bk]) nq2)
          have l5 := s5 _ _ l3
          by_cases y2 : rest % 2 = 1
          · rw [if_pos y2]
            exact ixL l5 gk (ixL l5 gu ⟨smallE (by simp), fun q3 nq3 => put _ q3 ⟨kk, un, bk, th, 0, 0⟩ _ _ (s5.trans (Same.new _ nq3)) rfl (okR _ _ _ b0 b1 t0 t1) (by rw [upd_same, e2'])⟩)
          · rw [if_neg y2]
            exact put _ q2 ⟨kk, un, th, bk, 1, 0⟩ _ _ s5 rfl (okR _ _ _ t0 t1 b0 b1) (by rw [upd_same, e1])
      · rintro σ H3 ⟨ps, rs, rows, v4, v6, v7, v8, v9, v10, rfl, s3, l3, o3, ro3, R, P⟩
        have g := good_of (n := m.toNat) (by omega) (by omega) L' (by rw [show m.toNat - 1 = (m - 1).toNat by omega]; exact R) P
        rw [Int.toNat_of_nonneg (by omega)] at g
        walk_at "rd"
        refine ⟨smallE (by simp), fun t nt => ?_⟩
        have s5 := Same.new (.tup [.int m, .ref lo]) nt
        exact k t lo m ps rs _ (s3.free nt) nlo0 (s3.trans s5) upd_same (s5 _ _ o3) (RoadsAt.same s5 ro3) g
/-! #### check_place -/
def sp_check_place (T : Txt K mg) : Sp := fun vs H Q E => ∃ (p t : Addr) (m : Int) (ps : List Addr) (rs : List Road) (n : Int), vs = [.ref p, .int n] ∧ WebAt T.Web H p m t ps rs ∧ (0 ≤ n → n < m → Q .non H) ∧ (¬ (0 ≤ n ∧ n < m) → E (.ref T.NoPlace) none H)
abbrev s_check_place : Stmt := top 13
theorem sc_check_place : FnScope ["web", "number"] ["web", "number"] (defScope s_check_place) := FnScope.of (by kernel_rfl)
theorem n_check_place__web : NmL (defScope s_check_place) "web" := .of (by kernel_rfl)
theorem n_check_place__number : NmL (defScope s_check_place) "number" := .of (by kernel_rfl)
theorem n_check_place__is_place : NmG (defScope s_check_place) "is_place" := .of (by kernel_rfl)
theorem n_check_place__NoPlace : NmG (defScope s_check_place) "NoPlace" := .of (by kernel_rfl)

theorem ok_check_place (T : Txt K mg) (hq : Quiet (CXe P w)) {f : Addr} {fd : FuncData} (D : Df K mg "check_place" s_check_place ["web", "number"] f fd) {f_is_place : Addr} {fd_is_place : FuncData} (D_is_place : Df K mg "is_place" s_is_place ["many", "number"] f_is_place fd_is_place) (G_is_place : FnOk P w K mg base (CXe P w) 1 f_is_place fd_is_place ["many", "number"] (sp_is_place T)) : FnOk P w K mg base (CXe P w) 2 f fd ["web", "number"] (sp_check_place T) := by
  refine D.F.okX sc_check_place (fun vs H Q E h => ?_) (fun cdv A outer s H vs Q E hr h => ?_)
  · obtain ⟨p, t, m, ps, rs, n, rfl, _⟩ := h
    rfl
  · obtain ⟨p, t, m, ps, rs, n, rfl, W, k, e⟩ := h
    obtain ⟨dx, ob⟩ := W.ob
    refine ⟨_, (pss_one (ps_if (pt_not (pt_val (pe_call G_is_place (hr.mono (by decide)) n_check_place__is_place.g D_is_place.m D_is_place.F.kp D_is_place.b .nil passX (pa_cons (pe_fld  (pvl 0 n_check_place__web) rfl) (pa_cons (pvl 1 n_check_place__number) pa_nil)) (hdb := n_check_place__is_place.d)))) (pss_one (ps_raise T.e_NoPlace rfl raisesX n_check_place__NoPlace.g T.m_NoPlace (pa_cons pe_str pa_nil) (hdb := n_check_place__NoPlace.d))) pss_nil)), ?_⟩
    rw [show L2.start ["web", "number"] [V.ref p, V.int n] = [some (V.ref p), some (V.int n)] from rfl]
    walk_at "rd"
    refine ⟨T.Web, dx, _, ob, T.cl_Web, T.n_many, _, wflds_many m t, m, n, rfl, _, rfl, ?_⟩
    by_cases c : 0 ≤ n ∧ n < m
    · rw [if_neg (by simp [c.1, c.2])]
      exact k c.1 c.2
    · rw [if_pos (by simpa [Bool.and_eq_true] using c)]
      exact ⟨by decide, e c⟩
/-! #### check_wanted -/
def sp_check_wanted (T : Txt K mg) : Sp := fun vs H Q E => ∃ (p t : Addr) (m : Int) (ps : List Addr) (rs : List Road) (r x : Int), vs = [.ref p, .int r, .int x] ∧ WebAt T.Web H p m t ps rs ∧ (0 ≤ r → r < m → 1 ≤ x → Q .non H) ∧ (¬ (0 ≤ r ∧ r < m) → E (.ref T.NoPlace) none H) ∧ (0 ≤ r → r < m → x < 1 → E (.ref T.BadWish) none H)
abbrev s_check_wanted : Stmt := top 29
theorem sc_check_wanted : FnScope ["web", "r", "wanted"] ["web", "r", "wanted"] (defScope s_check_wanted) := FnScope.of (by kernel_rfl)
theorem n_check_wanted__web : NmL (defScope s_check_wanted) "web" := .of (by kernel_rfl)
theorem n_check_wanted__r : NmL (defScope s_check_wanted) "r" := .of (by kernel_rfl)
theorem n_check_wanted__wanted : NmL (defScope s_check_wanted) "wanted" := .of (by kernel_rfl)
theorem n_check_wanted__check_place : NmG (defScope s_check_wanted) "check_place" := .of (by kernel_rfl)
theorem n_check_wanted__BadWish : NmG (defScope s_check_wanted) "BadWish" := .of (by kernel_rfl)

theorem ok_check_wanted (T : Txt K mg) (hq : Quiet (CXe P w)) {f : Addr} {fd : FuncData} (D : Df K mg "check_wanted" s_check_wanted ["web", "r", "wanted"] f fd) {f_check_place : Addr} {fd_check_place : FuncData} (D_check_place : Df K mg "check_place" s_check_place ["web", "number"] f_check_place fd_check_place) (G_check_place : FnOk P w K mg base (CXe P w) 2 f_check_place fd_check_place ["web", "number"] (sp_check_place T)) : FnOk P w K mg base (CXe P w) 3 f fd ["web", "r", "wanted"] (sp_check_wanted T) := by
  refine D.F.okX sc_check_wanted (fun vs H Q E h => ?_) (fun cdv A outer s H vs Q E hr h => ?_)
  · obtain ⟨p, t, m, ps, rs, r, x, rfl, _⟩ := h
    rfl
  · obtain ⟨p, t, m, ps, rs, r, x, rfl, W, k, e, e'⟩ := h
    refine ⟨_, (pss_cons (ps_expr (pe_call G_check_place (hr.mono (by decide)) n_check_wanted__check_place.g D_check_place.m D_check_place.F.kp D_check_place.b .nil passX (pa_cons (pvl 0 n_check_wanted__web) (pa_cons (pvl 1 n_check_wanted__r) pa_nil)) (hdb := n_check_wanted__check_place.d))) (pss_one (ps_if (pt_cmpR op_lt (pvl 2 n_check_wanted__wanted) pe_int (nomark _)) (pss_one (ps_raise T.e_BadWish rfl raisesX n_check_wanted__BadWish.g T.m_BadWish (pa_cons pe_str pa_nil) (hdb := n_check_wanted__BadWish.d))) pss_nil))), ?_⟩
    rw [show L2.start ["web", "r", "wanted"] [V.ref p, V.int r, V.int x] = [some (V.ref p), some (V.int r), some (V.int x)] from rfl]
    walk_at "rd"
    refine ⟨p, t, m, ps, rs, r, rfl, W, fun r0 r1 => ?_, e⟩
    show if x < 1 then _ else _
    by_cases z : x < 1
    · rw [if_pos z]
      exact ⟨by decide, e' r0 r1 z⟩
    · rw [if_neg z]
      exact k r0 r1 (by omega)
/-! #### neighbours -/
def sp_neighbours (T : Txt K mg) : Sp := fun vs H Q E => ∃ (p t : Addr) (m : Int) (ps : List Addr) (rs : List Road) (a : Int), vs = [.ref p, .int a] ∧ WebAt T.Web H p m t ps rs ∧
  (∀ l H', 0 ≤ a → a < m → H l = none → Same H H' → H' l = some (.lst ((nbrs m rs a).map V.int)) → Q (.ref l) H') ∧ (¬ (0 ≤ a ∧ a < m) → E (.ref T.NoPlace) none H)
abbrev s_neighbours : Stmt := top 12
theorem sc_neighbours : FnScope ["web", "a"] ["web", "a"] (defScope s_neighbours) := FnScope.of (by kernel_rfl)
theorem n_neighbours__web : NmL (defScope s_neighbours) "web" := .of (by kernel_rfl)
theorem n_neighbours__a : NmL (defScope s_neighbours) "a" := .of (by kernel_rfl)
theorem n_neighbours__check_place : NmG (defScope s_neighbours) "check_place" := .of (by kernel_rfl)
theorem n_neighbours__sorted : NmG (defScope s_neighbours) "sorted" := .of (by kernel_rfl)
theorem n_neighbours__other_ends : NmG (defScope s_neighbours) "other_ends" := .of (by kernel_rfl)

theorem ok_neighbours (T : Txt K mg) (hq : Quiet (CXe P w)) {f : Addr} {fd : FuncData} (D : Df K mg "neighbours" s_neighbours ["web", "a"] f fd) {f_check_place : Addr} {fd_check_place : FuncData} (D_check_place : Df K mg "check_place" s_check_place ["web", "number"] f_check_place fd_check_place) (G_check_place : FnOk P w K mg base (CXe P w) 2 f_check_place fd_check_place ["web", "number"] (sp_check_place T)) {f_other_ends : Addr} {fd_other_ends : FuncData} (D_other_ends : Df K mg "other_ends" s_other_ends ["roads", "place"] f_other_ends fd_other_ends) (G_other_ends : FnOk P w K mg base (CXe P w) 1 f_other_ends fd_other_ends ["roads", "place"] (sp_other_ends T)) : FnOk P w K mg base (CXe P w) 3 f fd ["web", "a"] (sp_neighbours T) := by
  refine D.F.okX sc_neighbours (fun vs H Q E h => ?_) (fun cdv A outer s H vs Q E hr h => ?_)
  · obtain ⟨p, t, m, ps, rs, a, rfl, _⟩ := h
    rfl
  · obtain ⟨p, t, m, ps, rs, a, rfl, W, k, e⟩ := h
    obtain ⟨dx, ob⟩ := W.ob
    refine ⟨_, (pss_cons (ps_expr (pe_call G_check_place (hr.mono (by decide)) n_neighbours__check_place.g D_check_place.m D_check_place.F.kp D_check_place.b .nil passX (pa_cons (pvl 0 n_neighbours__web) (pa_cons (pvl 1 n_neighbours__a) pa_nil)) (hdb := n_neighbours__check_place.d))) (pss_one (ps_ret (pe_callB call_sorted n_neighbours__sorted.g T.sorted pb_sorted (pa_cons (pe_call G_other_ends (hr.mono (by decide)) n_neighbours__other_ends.g D_other_ends.m D_other_ends.F.kp D_other_ends.b .nil passX (pa_cons (pe_fld  (pvl 0 n_neighbours__web) rfl) (pa_cons (pvl 1 n_neighbours__a) pa_nil)) (hdb := n_neighbours__other_ends.d)) pa_nil) (hn := n_neighbours__sorted.n) (hdb := n_neighbours__sorted.d))))), ?_⟩
    rw [show L2.start ["web", "a"] [V.ref p, V.int a] = [some (V.ref p), some (V.int a)] from rfl]
    walk_at "rd"
    refine ⟨p, t, m, ps, rs, a, rfl, W, fun a0 a1 => ?_, e⟩
    have hlen : (rs.length : Int) = m - 1 := W.go.len
    have m24 := W.go.m24
    refine ⟨T.Web, dx, _, ob, T.cl_Web, T.n_roads, _, wflds_roads m t, t, ps, rs, a, rfl, SqT.of W.tu, W.ro, by omega, fun l1 H1 n1 s1 e1 => ?_⟩
    refine ⟨l1, rfl, ends rs a, SqL.of e1, by have := ends_len rs a; omega, fun l2 zs n2 pz sz => ?_⟩
    rw [nbrs_eq W.go a0 a1 pz sz]
    exact k l2 _ a0 a1 (s1.free n2) (s1.trans (Same.new _ n2)) upd_same
/-! #### kids -/
def sp_kids (T : Txt K mg) : Sp := fun vs H Q _ => ∃ (p t : Addr) (m : Int) (ps : List Addr) (rs : List Road) (a : Int) (fv : V), vs = [.ref p, .int a, fv] ∧ WebAt T.Web H p m t ps rs ∧ 0 ≤ a ∧ a < m ∧ (fv = .non ∨ ∃ i, fv = .int i) ∧
  ∀ l H', H l = none → Same H H' → H' l = some (.lst ((kidsOf m rs fv a).map V.int)) → Q (.ref l) H'
abbrev s_kids : Stmt := top 23
theorem sc_kids : FnScope ["web", "place", "front"] ["web", "place", "front"] (defScope s_kids) := FnScope.of (by kernel_rfl)
theorem n_kids__web : NmL (defScope s_kids) "web" := .of (by kernel_rfl)
theorem n_kids__place : NmL (defScope s_kids) "place" := .of (by kernel_rfl)
theorem n_kids__front : NmC (defScope s_kids) "front" := .of (by kernel_rfl)
theorem n_kids__neighbours : NmG (defScope s_kids) "neighbours" := .of (by kernel_rfl)

theorem ok_kids (T : Txt K mg) (hq : Quiet (CXe P w)) {f : Addr} {fd : FuncData} (D : Df K mg "kids" s_kids ["web", "place", "front"] f fd) {f_neighbours : Addr} {fd_neighbours : FuncData} (D_neighbours : Df K mg "neighbours" s_neighbours ["web", "a"] f_neighbours fd_neighbours) (G_neighbours : FnOk P w K mg base (CXe P w) 3 f_neighbours fd_neighbours ["web", "a"] (sp_neighbours T)) : FnOk P w K mg base (CXe P w) 4 f fd ["web", "place", "front"] (sp_kids T) := by
  refine D.F.okC sc_kids (fun vs H Q E h => ?_) (fun cdv A outer s H vs Q E hr h => ?_)
  · obtain ⟨p, t, m, ps, rs, a, fv, rfl, _⟩ := h
    rfl
  · obtain ⟨p, t, m, ps, rs, a, fv, rfl, W, a0, a1, hf, k⟩ := h
    have m24 := W.go.m24
    refine ⟨_, (pss_one (ps_ret (pe_comp rfl (ct_clos (Nc := ["near", "front"]) 1 [2] (by decide +kernel) rfl (by decide +kernel) rfl (by show ∀ (y : Str × NameKind), y ∈ _ → y.2 = NameKind.free → (defScope s_kids).names.lookup y.1 = some NameKind.cell; decide +kernel) rfl (fun _ h => cell_has h) (fun i hi => match i, hi with | 0, _ => ⟨"front", 2, rfl, rfl, rfl, by decide +kernel⟩ | i + 1, hi => absurd hi (by show ¬ i + 1 < 1; omega))) (pi_list (pe_call G_neighbours (hr.mono (by decide)) n_kids__neighbours.g D_neighbours.m D_neighbours.F.kp D_neighbours.b .nil (passQ hq) (pa_cons (pvl 0 n_kids__web) (pa_cons (pvl 1 n_kids__place) pa_nil)) (hdb := n_kids__neighbours.d))) (fun _ _ _ _ => (pg_name (i := 0) (show (["near", "front"] : List Str).Nodup from by decide +kernel) rfl (Or.inl rfl))) (fun _ _ _ _ => (pts_one (pt_cmpR op_ne (pv 0) (pv 1) (nomark _)))) (fun _ _ _ _ => (pv 0))))), ?_⟩
    rw [show L2.start ["web", "place", "front"] [V.ref p, V.int a, fv] = [some (V.ref p), some (V.int a), some fv] from rfl]
    walk_at "rd"
    have nl : (nbrs m rs a).length ≤ 24 := by
      have := List.length_filter_le (fun q => decide (q ∈ ends rs a)) (below m.toNat)
      rw [below_length] at this
      unfold nbrs
      omega
    refine ⟨p, t, m, ps, rs, a, rfl, W, fun l1 H1 _ _ n1 s1 e1 => ⟨l1, rfl, ⟨_, SqL.of e1⟩, fun l2 n2 => ?_⟩, fun z => absurd ⟨a0, a1⟩ z⟩
    have n20 : H l2 = none := s1.free n2
    refine comp_any (c := true) (K := K) (a := l1) (xs := (nbrs m rs a).map V.int) (fun j ys σ H2 => Same H1 H2 ∧ H2 l2 = some (.lst ys) ∧ ys = (((nbrs m rs a).take j).filter fun v => decide (V.int v ≠ fv)).map V.int ∧ ∃ v, σ = [v, some fv]) ⟨Same.new _ n2, upd_same, rfl, _, rfl⟩ (fun j ys σ H2 _ z => SqL.of (z.1 _ _ e1)) ?_ ?_
    · rintro j xj ys σ H2 N hN hj ⟨s2, h2, rfl, v, rfl⟩
      rw [List.getElem?_map] at hj
      obtain ⟨b, hb, rfl⟩ := Option.map_eq_some_iff.mp hj
      have et : (nbrs m rs a).take (j + 1) = (nbrs m rs a).take j ++ [b] := by rw [List.take_succ, hb]; rfl
      have ll : (((nbrs m rs a).take j).filter fun v => decide (V.int v ≠ fv)).length ≤ 24 := by
        have h1 := List.length_filter_le (fun v => decide (V.int v ≠ fv)) ((nbrs m rs a).take j)
        rw [List.length_take] at h1
        omega
      walk_at "rd"
      have sc : scal (V.int b) fv = true := by
        rcases hf with rfl | ⟨i, rfl⟩ <;> rfl
      refine ⟨sc, ?_⟩
      by_cases c : V.int b = fv
      · rw [if_neg (fun z => z c)]
        refine hN _ _ _ ⟨s2, h2, ?_, _, rfl⟩
        rw [et, List.filter_append]
        simp [c]
      · rw [if_pos c]
        refine ⟨h2, small (by rw [List.length_map]; omega), hN _ _ _ ⟨s2.put n2 _, upd_same, ?_, _, rfl⟩⟩
        rw [et, List.filter_append]
        simp [c]
    · rintro ys σ H2 ⟨s2, h2, rfl, v, rfl⟩
      rw [List.length_map, List.take_length] at h2
      exact k l2 H2 n20 (s1.trans s2) h2
/-! #### ahead -/
def sp_ahead (T : Txt K mg) : Sp := fun vs H Q E => ∃ (p t : Addr) (m : Int) (ps : List Addr) (rs : List Road) (r : Int), vs = [.ref p, .int r] ∧ WebAt T.Web H p m t ps rs ∧
  (0 ≤ r → r < m → ∃ par dep, Rooted m rs r par dep ∧ ∀ l H', H l = none → Same H H' → H' l = some (.lst (parL m r par)) → Q (.ref l) H') ∧ (¬ (0 ≤ r ∧ r < m) → E (.ref T.NoPlace) none H)
abbrev s_ahead : Stmt := top 21
theorem sc_ahead : FnScope ["web", "r", "nearer", "waiting", "place", "front", "kid"] ["web", "r"] (defScope s_ahead) := FnScope.of (by kernel_rfl)
theorem n_ahead__web : NmL (defScope s_ahead) "web" := .of (by kernel_rfl)
theorem n_ahead__r : NmL (defScope s_ahead) "r" := .of (by kernel_rfl)
theorem n_ahead__nearer : NmL (defScope s_ahead) "nearer" := .of (by kernel_rfl)
theorem n_ahead__waiting : NmL (defScope s_ahead) "waiting" := .of (by kernel_rfl)
theorem n_ahead__place : NmL (defScope s_ahead) "place" := .of (by kernel_rfl)
theorem n_ahead__front : NmL (defScope s_ahead) "front" := .of (by kernel_rfl)
theorem n_ahead__kid : NmL (defScope s_ahead) "kid" := .of (by kernel_rfl)
theorem n_ahead__check_place : NmG (defScope s_ahead) "check_place" := .of (by kernel_rfl)
theorem n_ahead__kids : NmG (defScope s_ahead) "kids" := .of (by kernel_rfl)

theorem ok_ahead (T : Txt K mg) (hq : Quiet (CXe P w)) {f : Addr} {fd : FuncData} (D : Df K mg "ahead" s_ahead ["web", "r"] f fd) {f_check_place : Addr} {fd_check_place : FuncData} (D_check_place : Df K mg "check_place" s_check_place ["web", "number"] f_check_place fd_check_place) (G_check_place : FnOk P w K mg base (CXe P w) 2 f_check_place fd_check_place ["web", "number"] (sp_check_place T)) {f_kids : Addr} {fd_kids : FuncData} (D_kids : Df K mg "kids" s_kids ["web", "place", "front"] f_kids fd_kids) (G_kids : FnOk P w K mg base (CXe P w) 4 f_kids fd_kids ["web", "place", "front"] (sp_kids T)) : FnOk P w K mg base (CXe P w) 5 f fd ["web", "r"] (sp_ahead T) := by
  refine D.F.okX sc_ahead (fun vs H Q E h => ?_) (fun cdv A outer s H vs Q E hr h => ?_)
  · obtain ⟨p, t, m, ps, rs, r, rfl, _⟩ := h
    rfl
  · obtain ⟨p, t, m, ps, rs, r, rfl, W, k, e⟩ := h
    obtain ⟨dx, ob⟩ := W.ob
    have g := W.go
    have m24 := g.m24
    refine ⟨_, (pss_cons (ps_expr (pe_call G_check_place (hr.mono (by decide)) n_ahead__check_place.g D_check_place.m D_check_place.F.kp D_check_place.b .nil passX (pa_cons (pvl 0 n_ahead__web) (pa_cons (pvl 1 n_ahead__r) pa_nil)) (hdb := n_ahead__check_place.d))) (pss_cons (ps_set (i := 2) sc_ahead.nd rfl (Or.inl n_ahead__nearer.l) (pe_op op_rep (pe_lst (pa_cons pe_non pa_nil)) (pe_fld  (pvl 0 n_ahead__web) rfl))) (pss_cons (ps_set (i := 3) sc_ahead.nd rfl (Or.inl n_ahead__waiting.l) (pe_lst (pa_cons (pvl 1 n_ahead__r) pa_nil))) (pss_cons (ps_while PassesOwn.leaving (pt_truth (pvl 3 n_ahead__waiting) (fun _ => rfl)) (pss_cons (ps_set (i := 4) sc_ahead.nd rfl (Or.inl n_ahead__place.l) (pe_bm0 PySem.F.plainAttrs_list PySem.F.slot_list_pop PySem.F.type_list_pop mt_pop (pvl 3 n_ahead__waiting))) (pss_cons (ps_set (i := 5) sc_ahead.nd rfl (Or.inl n_ahead__front.l) (pe_ix ix_list (pvl 2 n_ahead__nearer) (pvl 4 n_ahead__place) (fun _ _ => rfl))) (pss_one (ps_for PassesOwn.leaving rfl (pi_list (pe_call G_kids (hr.mono (by decide)) n_ahead__kids.g D_kids.m D_kids.F.kp D_kids.b .nil passX (pa_cons (pvl 0 n_ahead__web) (pa_cons (pvl 4 n_ahead__place) (pa_cons (pvl 5 n_ahead__front) pa_nil))) (hdb := n_ahead__kids.d))) (pg_name (i := 6) sc_ahead.nd rfl (Or.inl n_ahead__kid.l)) (pss_cons (ps_asg (pvl 4 n_ahead__place) (pg_sub (pvl 2 n_ahead__nearer) (pvl 6 n_ahead__kid) set_list)) (pss_one (ps_expr (pe_bm PySem.F.plainAttrs_list PySem.F.slot_list_append PySem.F.type_list_append mt_append (pvl 3 n_ahead__waiting) (pa_cons (pvl 6 n_ahead__kid) pa_nil)))))))))) (pss_one (ps_ret (pvl 2 n_ahead__nearer))))))), ?_⟩
    rw [show L2.start ["web", "r", "nearer", "waiting", "place", "front", "kid"] [V.ref p, V.int r] = [some (V.ref p), some (V.int r), none, none, none, none, none] from rfl]
    walk_at "rd"
    refine ⟨p, t, m, ps, rs, r, rfl, W, fun r0 r1 => ?_, e⟩
    obtain ⟨par, dep, R, k⟩ := k r0 r1
    refine ⟨by decide, fun l1 n1 => ?_⟩
    have s1 := Same.new (.lst [V.non]) n1
    refine ⟨T.Web, dx, _, s1 _ _ ob, T.cl_Web, T.n_many, _, rfl, ?_⟩
    refine ⟨l1, m, [V.non], rfl, rfl, upd_same, by omega, by omega, smallE (by simp; omega), fun l2 n2 => ?_⟩
    have n20 : H l2 = none := s1.free n2
    rw [rep_flat, ← nl_nil (par := par)]
    have s2 := s1.trans (Same.new (.lst (nl m par [])) n2)
    refine ⟨smallE (by simp), fun l3 n3 => ?_⟩
    have n30 : H l3 = none := s2.free n3
    have n32 : l3 ≠ l2 := fun z => by rw [z, upd_same] at n3; cases n3
    have s3 := s2.trans (Same.new (.lst [V.int r]) n3)
    have e2 : upd (upd (upd H l1 (.lst [V.non])) l2 (.lst (nl m par []))) l3 (.lst [V.int r]) l2 = some (.lst (nl m par [])) := by rw [upd_ne n32.symm, upd_same]
    have e3 : upd (upd (upd H l1 (.lst [V.non])) l2 (.lst (nl m par []))) l3 (.lst [V.int r]) l3 = some (.lst [V.int r]) := upd_same
    generalize upd (upd (upd H l1 (.lst [V.non])) l2 (.lst (nl m par []))) l3 (.lst [V.int r]) = H3 at s3 e2 e3 ⊢
    refine while_H (fun n σ H4 => ∃ (ks ws : List Int) (v4 v5 v6 : Option V), n = 2 * (m.toNat - ks.length) + ws.length ∧ σ = [some (.ref p), some (.int r), some (.ref l2), some (.ref l3), v4, v5, v6] ∧ Same H H4 ∧ H4 l2 = some (.lst (nl m par ks)) ∧ H4 l3 = some (.lst (ws.map V.int)) ∧ AInv m rs r par ks ws) (2 * m.toNat + 1) ⟨[], [r], _, _, _, rfl, rfl, s3, e2, e3, AInv.start⟩ ?_
    rintro n σ H4 NW BB hBB hN hN2 ⟨ks, ws, v4, v5, v6, rfl, rfl, s4, h2, h3, J⟩
    refine hBB _ _ _ ?_
    have kl := nodup_len (by omega) J.nd J.rng
    walk_at "rd"
    refine ⟨_, .inl ⟨_, SqL.of h3, rfl⟩, ?_⟩
    rcases List.eq_nil_or_concat ws with rfl | ⟨ws', q, rfl⟩
    · rw [if_neg (by simp)]
      rw [J.done R] at h2
      exact k l2 H4 n20 s4 h2
    · rw [List.concat_eq_append] at J h3 hN hN2 ⊢
      rw [if_pos (by simp)]
      have hq : q ∈ ws' ++ [q] := List.mem_append_right _ (List.mem_singleton.mpr rfl)
      have pr := J.at_ r0 r1 hq
      have J2 := J.step g R r0 r1 (p := q) (ws' := ws') (List.perm_append_singleton q ws')
      refine ⟨NW, fun σ' H' z => ?_, ?_⟩
      · obtain ⟨m', lt, ks', ws'', a4, a5, a6, e1, e2, e3⟩ := hN2 _ _ z
        exact ⟨m', lt, ks', ws'', e1, a4, a5, a6, e2, e3⟩
      rw [List.map_append, List.map_cons, List.map_nil] at h3
      refine ⟨tyL h3, popR h3 ?_⟩
      have s5 : Same H (upd H4 l3 (.lst (ws'.map V.int))) := s4.put n30 _
      have h25 : upd H4 l3 (.lst (ws'.map V.int)) l2 = some (.lst (nl m par ks)) := by rw [upd_ne n32.symm]; exact h2
      have h35 : upd H4 l3 (.lst (ws'.map V.int)) l3 = some (.lst (ws'.map V.int)) := upd_same
      generalize upd H4 l3 (.lst (ws'.map V.int)) = H5 at s5 h25 h35 ⊢
      refine ixL h25 (atI_int pr.1 (nl_get pr.1 pr.2)) ?_
      rw [J.front hq]
      have hfv : Pb.front r par q = .non ∨ ∃ i, Pb.front r par q = .int i := by
        unfold Pb.front
        by_cases c : q = r
        · rw [if_pos c]; exact .inl rfl
        · rw [if_neg c]; exact .inr ⟨_, rfl⟩
      have mk : ∀ v, v ∈ kidsOf m rs (Pb.front r par q) q → (0 ≤ v ∧ v < m) ∧ v ≠ r ∧ par v = q := fun v => (mem_kids g R pr.1 pr.2).mp
      refine ⟨p, t, m, ps, rs, q, _, rfl, W.same s5, pr.1, pr.2, hfv, fun l6 H6 n6 s6 e6 => ⟨l6, rfl, ⟨_, SqL.of e6⟩, ?_⟩⟩
      generalize kidsOf m rs (Pb.front r par q) q = kk at mk e6 J2 ⊢
      have n6' : H l6 = none := s5.free n6
      have n62 : l6 ≠ l2 := fun z => by rw [z, h25] at n6; cases n6
      have n63 : l6 ≠ l3 := fun z => by rw [z, h35] at n6; cases n6
      have kl2 := nodup_len (by omega) J2.nd J2.rng
      rw [List.length_append] at kl2
      have wl2 := nodup_len (by omega) J2.wnd fun w hw => J2.at_ r0 r1 hw
      rw [List.length_append] at wl2
      refine for_listH (K := K) (xs := kk.map V.int) (fun i σ H7 => ∃ v6, σ = [some (.ref p), some (.int r), some (.ref l2), some (.ref l3), some (.int q), some (Pb.front r par q), v6] ∧ Same H H7 ∧ H7 l6 = some (.lst (kk.map V.int)) ∧ H7 l2 = some (.lst (nl m par (ks ++ kk.take i))) ∧ H7 l3 = some (.lst ((ws' ++ kk.take i).map V.int))) ⟨_, rfl, s5.trans s6, e6, by rw [List.take_zero, List.append_nil]; exact s6 _ _ h25, by rw [List.take_zero, List.append_nil]; exact s6 _ _ h35⟩ (fun i σ H7 _ z => by obtain ⟨_, _, _, z, _⟩ := z; exact SqL.of z) ?_ ?_
      · rintro i x σ H7 NI BB hBB hI hi ⟨v6, rfl, s7, e7, h27, h37⟩
        refine hBB _ _ ?_
        rw [List.getElem?_map] at hi
        obtain ⟨v, hv, rfl⟩ := Option.map_eq_some_iff.mp hi
        obtain ⟨vr, _, vp⟩ := mk v (List.mem_of_getElem? hv)
        have et : kk.take (i + 1) = kk.take i ++ [v] := by rw [List.take_succ, hv]; rfl
        walk_at "rd"
        refine ⟨l2, _, v, v.toNat, rfl, rfl, h27, by unfold ixN; rw [if_pos vr.1, if_pos (by rw [nl_length]; omega)], ?_⟩
        rw [← vp, nl_set vr.1 vr.2, vp, List.append_assoc, ← et]
        have h38 : upd H7 l2 (.lst (nl m par (ks ++ kk.take (i + 1)))) l3 = some (.lst ((ws' ++ kk.take i).map V.int)) := by rw [upd_ne n32]; exact h37
        have wlen : (ws' ++ kk.take i).length ≤ 100 := by
          rw [List.length_append, List.length_take]
          omega
        refine ⟨tyL h38, appR h38 (small (by rw [List.length_map]; omega)) (hI _ _ ⟨_, rfl, (s7.put n20 _).put n30 _, ?_, ?_, ?_⟩)⟩
        · rw [upd_ne n63, upd_ne n62]; exact e7
        · rw [upd_ne n32.symm, upd_same]
        · rw [upd_same, et, ← List.append_assoc, List.map_append (l₁ := ws' ++ kk.take i)]; rfl
      · rintro BB σ H7 hBB ⟨v6, rfl, s7, e7, h27, h37⟩
        refine hBB _ _ ?_
        rw [List.length_map, List.take_length] at h27 h37
        refine hN _ _ _ ?_ ⟨_, _, _, _, _, rfl, rfl, s7, h27, h37, J2⟩
        rw [List.length_append, List.length_append, List.length_append]
        simp only [List.length_cons, List.length_nil]
        omega
/-! #### down -/
def sp_down (T : Txt K mg) : Sp := fun vs H Q E => ∃ (p t : Addr) (m : Int) (ps : List Addr) (rs : List Road) (r : Int), vs = [.ref p, .int r] ∧ WebAt T.Web H p m t ps rs ∧
  (0 ≤ r → r < m → ∃ par dep, Rooted m rs r par dep ∧ ∀ l H', H l = none → Same H H' → H' l = some (.lst ((preL m rs r par dep r).map V.int)) → (preL m rs r par dep r).Nodup → (∀ v, v ∈ preL m rs r par dep r ↔ 0 ≤ v ∧ v < m) → Q (.ref l) H') ∧ (¬ (0 ≤ r ∧ r < m) → E (.ref T.NoPlace) none H)
abbrev s_down : Stmt := top 22
theorem sc_down : FnScope ["web", "r", "nearer", "places", "waiting", "place", "kid"] ["web", "r"] (defScope s_down) := FnScope.of (by kernel_rfl)
theorem n_down__web : NmL (defScope s_down) "web" := .of (by kernel_rfl)
theorem n_down__r : NmL (defScope s_down) "r" := .of (by kernel_rfl)
theorem n_down__nearer : NmL (defScope s_down) "nearer" := .of (by kernel_rfl)
theorem n_down__places : NmL (defScope s_down) "places" := .of (by kernel_rfl)
theorem n_down__waiting : NmL (defScope s_down) "waiting" := .of (by kernel_rfl)
theorem n_down__place : NmL (defScope s_down) "place" := .of (by kernel_rfl)
theorem n_down__kid : NmL (defScope s_down) "kid" := .of (by kernel_rfl)
theorem n_down__ahead : NmG (defScope s_down) "ahead" := .of (by kernel_rfl)
theorem n_down__reversed : NmG (defScope s_down) "reversed" := .of (by kernel_rfl)
theorem n_down__kids : NmG (defScope s_down) "kids" := .of (by kernel_rfl)

theorem ok_down (T : Txt K mg) (hq : Quiet (CXe P w)) {f : Addr} {fd : FuncData} (D : Df K mg "down" s_down ["web", "r"] f fd) {f_ahead : Addr} {fd_ahead : FuncData} (D_ahead : Df K mg "ahead" s_ahead ["web", "r"] f_ahead fd_ahead) (G_ahead : FnOk P w K mg base (CXe P w) 5 f_ahead fd_ahead ["web", "r"] (sp_ahead T)) {f_kids : Addr} {fd_kids : FuncData} (D_kids : Df K mg "kids" s_kids ["web", "place", "front"] f_kids fd_kids) (G_kids : FnOk P w K mg base (CXe P w) 4 f_kids fd_kids ["web", "place", "front"] (sp_kids T)) : FnOk P w K mg base (CXe P w) 6 f fd ["web", "r"] (sp_down T) := by
  refine D.F.okX sc_down (fun vs H Q E h => ?_) (fun cdv A outer s H vs Q E hr h => ?_)
  · obtain ⟨p, t, m, ps, rs, r, rfl, _⟩ := h
    rfl
  · obtain ⟨p, t, m, ps, rs, r, rfl, W, k, e⟩ := h
    have g := W.go
    have m24 := g.m24
    refine ⟨_, (pss_cons (ps_set (i := 2) sc_down.nd rfl (Or.inl n_down__nearer.l) (pe_call G_ahead (hr.mono (by decide)) n_down__ahead.g D_ahead.m D_ahead.F.kp D_ahead.b .nil passX (pa_cons (pvl 0 n_down__web) (pa_cons (pvl 1 n_down__r) pa_nil)) (hdb := n_down__ahead.d))) (pss_cons (ps_set (i := 3) sc_down.nd rfl (Or.inl n_down__places.l) (pe_lst pa_nil)) (pss_cons (ps_set (i := 4) sc_down.nd rfl (Or.inl n_down__waiting.l) (pe_lst (pa_cons (pvl 1 n_down__r) pa_nil))) (pss_cons (ps_while PassesOwn.leaving (pt_truth (pvl 4 n_down__waiting) (fun _ => rfl)) (pss_cons (ps_set (i := 5) sc_down.nd rfl (Or.inl n_down__place.l) (pe_bm0 PySem.F.plainAttrs_list PySem.F.slot_list_pop PySem.F.type_list_pop mt_pop (pvl 4 n_down__waiting))) (pss_cons (ps_expr (pe_bm PySem.F.plainAttrs_list PySem.F.slot_list_append PySem.F.type_list_append mt_append (pvl 3 n_down__places) (pa_cons (pvl 5 n_down__place) pa_nil))) (pss_one (ps_for PassesOwn.leaving rfl (pi_rev n_down__reversed.g T.reversed (pe_call G_kids (hr.mono (by decide)) n_down__kids.g D_kids.m D_kids.F.kp D_kids.b .nil passX (pa_cons (pvl 0 n_down__web) (pa_cons (pvl 5 n_down__place) (pa_cons (pe_ix ix_list (pvl 2 n_down__nearer) (pvl 5 n_down__place) (fun _ _ => rfl)) pa_nil))) (hdb := n_down__kids.d))) (pg_name (i := 6) sc_down.nd rfl (Or.inl n_down__kid.l)) (pss_one (ps_expr (pe_bm PySem.F.plainAttrs_list PySem.F.slot_list_append PySem.F.type_list_append mt_append (pvl 4 n_down__waiting) (pa_cons (pvl 6 n_down__kid) pa_nil))))))))) (pss_one (ps_ret (pvl 3 n_down__places))))))), ?_⟩
    rw [show L2.start ["web", "r", "nearer", "places", "waiting", "place", "kid"] [V.ref p, V.int r] = [some (V.ref p), some (V.int r), none, none, none, none, none] from rfl]
    walk_at "rd"
    refine ⟨p, t, m, ps, rs, r, rfl, W, fun r0 r1 => ?_, e⟩
    obtain ⟨par, dep, R, k⟩ := k r0 r1
    refine ⟨par, dep, R, fun l1 H1 n1 s1 e1 => ⟨by decide, fun l3 n3 => ⟨smallE (by simp), fun l4 n4 => ?_⟩⟩⟩
    have n30 : H l3 = none := s1.free n3
    have s3 := s1.trans (Same.new (.lst []) n3)
    have n40 : H l4 = none := s3.free n4
    have n13 : l1 ≠ l3 := fun z => by rw [← z, e1] at n3; cases n3
    have n34 : l3 ≠ l4 := fun z => by rw [← z, upd_same] at n4; cases n4
    have e13 := Same.new (.lst []) n3 _ _ e1
    have n14 : l1 ≠ l4 := fun z => by rw [← z, e13] at n4; cases n4
    have s4 := s3.trans (Same.new (.lst [V.int r]) n4)
    have e14 := Same.new (.lst [V.int r]) n4 _ _ e13
    have e34 : upd (upd H1 l3 (.lst [])) l4 (.lst [V.int r]) l3 = some (.lst []) := by rw [upd_ne n34, upd_same]
    have e44 : upd (upd H1 l3 (.lst [])) l4 (.lst [V.int r]) l4 = some (.lst [V.int r]) := upd_same
    generalize upd (upd H1 l3 (.lst [])) l4 (.lst [V.int r]) = H4 at s4 e14 e34 e44 ⊢
    refine while_H (fun n σ H5 => ∃ (ks ws pl : List Int) (v5 v6 : Option V), n = 2 * (m.toNat - ks.length) + ws.length ∧ σ = [some (.ref p), some (.int r), some (.ref l1), some (.ref l3), some (.ref l4), v5, v6] ∧ Same H H5 ∧ H5 l1 = some (.lst (parL m r par)) ∧ H5 l3 = some (.lst (pl.map V.int)) ∧ H5 l4 = some (.lst (ws.map V.int)) ∧ AInv m rs r par ks ws ∧ (pl ++ ws).Perm (r :: ks) ∧ pl ++ ws.reverse.flatMap (preL m rs r par dep) = preL m rs r par dep r) (2 * m.toNat + 1) ⟨[], [r], [], _, _, rfl, rfl, s4, e14, e34, e44, AInv.start, List.Perm.refl _, by simp⟩ ?_
    rintro n σ H5 NW BB hBB hN hN2 ⟨ks, ws, pl, v5, v6, rfl, rfl, s5, h1, h3, h4, J, pe, ep⟩
    refine hBB _ _ _ ?_
    have rk : ∀ w ∈ r :: ks, 0 ≤ w ∧ w < m := fun w hw => by
      rcases List.mem_cons.mp hw with rfl | z
      · exact ⟨r0, r1⟩
      · exact J.rng w z
    have nk : (r :: ks).Nodup := List.nodup_cons.mpr ⟨J.nr, J.nd⟩
    have kl := nodup_len (m := m) (by omega) nk rk
    have kl1 := nodup_len (m := m) (by omega) J.nd J.rng
    have pl1 := pe.length_eq
    rw [List.length_append] at pl1
    rw [List.length_cons] at kl pl1
    walk_at "rd"
    refine ⟨_, .inl ⟨_, SqL.of h4, rfl⟩, ?_⟩
    rcases List.eq_nil_or_concat ws with rfl | ⟨ws', q, rfl⟩
    · rw [if_neg (by simp)]
      rw [List.reverse_nil, List.flatMap_nil, List.append_nil] at ep
      rw [List.append_nil] at pe
      subst ep
      refine k l3 H5 n30 s5 h3 (pe.nodup_iff.mpr nk) fun v => ⟨fun z => rk v (pe.mem_iff.mp z), fun z => pe.mem_iff.mpr ?_⟩
      by_cases c : v = r
      · rw [c]; exact List.mem_cons_self
      · exact List.mem_cons_of_mem _ (J.all R v z.1 z.2 c)
    · rw [List.concat_eq_append] at J h4 hN hN2 pe ep pl1 ⊢
      rw [if_pos (by simp)]
      have hq : q ∈ ws' ++ [q] := List.mem_append_right _ (List.mem_singleton.mpr rfl)
      have pr := J.at_ r0 r1 hq
      have J2 := J.step g R r0 r1 (p := q) (ws' := ws') (List.perm_append_singleton q ws')
      refine ⟨NW, fun σ' H' z => ?_, ?_⟩
      · obtain ⟨m', lt, ks', ws'', pl', a5, a6, z1, z2⟩ := hN2 _ _ z
        exact ⟨m', lt, ks', ws'', z1, pl', a5, a6, z2⟩
      rw [List.map_append, List.map_cons, List.map_nil] at h4
      refine ⟨tyL h4, popR h4 ?_⟩
      have s6 : Same H (upd H5 l4 (.lst (ws'.map V.int))) := s5.put n40 _
      have h36 : upd H5 l4 (.lst (ws'.map V.int)) l3 = some (.lst (pl.map V.int)) := by rw [upd_ne n34]; exact h3
      have h16 : upd H5 l4 (.lst (ws'.map V.int)) l1 = some (.lst (parL m r par)) := by rw [upd_ne n14]; exact h1
      have h46 : upd H5 l4 (.lst (ws'.map V.int)) l4 = some (.lst (ws'.map V.int)) := upd_same
      generalize upd H5 l4 (.lst (ws'.map V.int)) = H6 at s6 h36 h16 h46 ⊢
      refine ⟨tyL h36, appR h36 (small (by rw [List.length_map]; omega)) ?_⟩
      have s7 : Same H (upd H6 l3 (.lst (pl.map V.int ++ [V.int q]))) := s6.put n30 _
      have h37 : upd H6 l3 (.lst (pl.map V.int ++ [V.int q])) l3 = some (.lst ((pl ++ [q]).map V.int)) := by rw [upd_same, List.map_append]; rfl
      have h17 : upd H6 l3 (.lst (pl.map V.int ++ [V.int q])) l1 = some (.lst (parL m r par)) := by rw [upd_ne n13]; exact h16
      have h47 : upd H6 l3 (.lst (pl.map V.int ++ [V.int q])) l4 = some (.lst (ws'.map V.int)) := by rw [upd_ne n34.symm]; exact h46
      generalize upd H6 l3 (.lst (pl.map V.int ++ [V.int q])) = H7 at s7 h37 h17 h47 ⊢
      refine ixL h17 (atI_int pr.1 (parL_get pr.1 pr.2)) ?_
      have hfv : Pb.front r par q = .non ∨ ∃ i, Pb.front r par q = .int i := by
        unfold Pb.front
        by_cases c : q = r
        · rw [if_pos c]; exact .inl rfl
        · rw [if_neg c]; exact .inr ⟨_, rfl⟩
      have pq := preL_step g R pr.1 pr.2
      refine ⟨p, t, m, ps, rs, q, _, rfl, W.same s7, pr.1, pr.2, hfv, fun l8 H8 n8 s8 e8 => ⟨l8, rfl, _, SqL.of e8, ?_⟩⟩
      generalize kidsOf m rs (Pb.front r par q) q = kk at e8 J2 pq ⊢
      have n81 : l1 ≠ l8 := fun z => by rw [← z, h17] at n8; cases n8
      have n83 : l3 ≠ l8 := fun z => by rw [← z, h37] at n8; cases n8
      have n84 : l4 ≠ l8 := fun z => by rw [← z, h47] at n8; cases n8
      have kl2 := nodup_len (m := m) (by omega) J2.nd J2.rng
      rw [List.length_append] at kl2
      have wl2 := nodup_len (m := m) (by omega) J2.wnd fun w hw => J2.at_ r0 r1 hw
      rw [List.length_append] at wl2
      refine for_revN (K := K) (xs := kk.map V.int) (fun i σ H9 => ∃ v6, σ = [some (.ref p), some (.int r), some (.ref l1), some (.ref l3), some (.ref l4), some (.int q), v6] ∧ Same H H9 ∧ H9 l8 = some (.lst (kk.map V.int)) ∧ H9 l1 = some (.lst (parL m r par)) ∧ H9 l3 = some (.lst ((pl ++ [q]).map V.int)) ∧ H9 l4 = some (.lst ((ws' ++ kk.reverse.take i).map V.int))) ⟨_, rfl, s7.trans s8, e8, s8 _ _ h17, s8 _ _ h37, by rw [List.take_zero, List.append_nil]; exact s8 _ _ h47⟩ (fun i σ H9 _ z => by obtain ⟨_, _, _, z, _⟩ := z; exact SqL.of z) ?_ ?_
      · rintro i x σ H9 NI hI hi ⟨v6, rfl, s9, e9, h19, h39, h49⟩
        rw [← List.map_reverse, List.getElem?_map] at hi
        obtain ⟨v, hv, rfl⟩ := Option.map_eq_some_iff.mp hi
        have et : kk.reverse.take (i + 1) = kk.reverse.take i ++ [v] := by rw [List.take_succ, hv]; rfl
        have wlen : (ws' ++ kk.reverse.take i).length ≤ 100 := by
          rw [List.length_append, List.length_take, List.length_reverse]
          omega
        walk_at "rd"
        refine ⟨tyL h49, appR h49 (small (by rw [List.length_map]; omega)) (hI _ _ ⟨_, rfl, s9.put n40 _, ?_, ?_, ?_, ?_⟩)⟩
        · rw [upd_ne n84.symm]; exact e9
        · rw [upd_ne n14]; exact h19
        · rw [upd_ne n34]; exact h39
        · rw [upd_same, et, ← List.append_assoc, List.map_append (l₁ := ws' ++ kk.reverse.take i)]; rfl
      · rintro σ H9 ⟨v6, rfl, s9, e9, h19, h39, h49⟩
        rw [List.length_map, show kk.length = kk.reverse.length by rw [List.length_reverse], List.take_length] at h49
        refine hN _ _ _ ?_ ⟨ks ++ kk, ws' ++ kk.reverse, pl ++ [q], _, _, rfl, rfl, s9, h19, h39, h49, J2.perm (List.Perm.append_left _ kk.reverse_perm.symm), ?_, ?_⟩
        · rw [List.length_append, List.length_append, List.length_append, List.length_reverse]
          simp only [List.length_cons, List.length_nil]
          omega
        · have p1 : (pl ++ [q] ++ (ws' ++ kk.reverse)).Perm (pl ++ (ws' ++ [q]) ++ kk) := by
            rw [List.append_assoc, List.append_assoc]
            refine List.Perm.append_left _ ?_
            rw [← List.append_assoc]
            exact List.Perm.append (List.perm_append_comm) kk.reverse_perm
          exact p1.trans (List.Perm.append_right _ pe)
        · rw [← ep, List.reverse_append, List.reverse_append, List.reverse_reverse, List.reverse_singleton, List.singleton_append, List.flatMap_cons, pq, List.flatMap_append]
          simp
/-! #### inward -/
/-- the places of a row with the ones ahead of them, from its end -/
def vPair (par : Int → Int) (v : Int) : List V := [.int v, .int (par v)]
abbrev PairsAt (H : Hp) (par : Int → Int) : List Addr → List Int → Prop := Paired fun q v => H q = some (.tup (vPair par v))
theorem PairsAt.same {H H' : Hp} {par : Int → Int} {qs : List Addr} {vs : List Int} (e : Same H H') (h : PairsAt H par qs vs) : PairsAt H' par qs vs := Paired.imp' (fun q v x => e q _ x) h
theorem PairsAt.get {H : Hp} {par : Int → Int} : ∀ {ps : List Addr} {rs : List Int} {i : Nat} {x : V}, PairsAt H par ps rs → (ps.map V.ref)[i]? = some x → ∃ p r, x = .ref p ∧ ps[i]? = some p ∧ rs[i]? = some r ∧ H p = some (.tup (vPair par r))
  | _, _, i, x, .nil, e => by simp at e
  | _, _, 0, x, .cons (a := p) (b := r) h hs, e => ⟨p, r, by simpa using e.symm, by simp, by simp, h⟩
  | a :: l1, _, i + 1, x, .cons h hs, e => by
    have e' : (List.map V.ref l1)[i]? = some x := by simpa using e
    obtain ⟨p, r, h1, h2, h3, h4⟩ := PairsAt.get hs e'
    exact ⟨p, r, h1, by simpa using h2, by simpa using h3, h4⟩
theorem PairsAt.snoc {H : Hp} {par : Int → Int} {q : Addr} {v : Int} (e : H q = some (.tup (vPair par v))) : ∀ {qs : List Addr} {vs : List Int}, PairsAt H par qs vs → PairsAt H par (qs ++ [q]) (vs ++ [v])
  | _, _, .nil => .cons e .nil
  | _, _, .cons x xs => .cons x (PairsAt.snoc e xs)
def sp_inward (T : Txt K mg) : Sp := fun vs H Q E => ∃ (p t : Addr) (m : Int) (ps : List Addr) (rs : List Road) (r : Int), vs = [.ref p, .int r] ∧ WebAt T.Web H p m t ps rs ∧
  (0 ≤ r → r < m → ∃ par dep, Rooted m rs r par dep ∧ ∀ l qs tl H', preL m rs r par dep r = r :: tl → H l = none → Same H H' → H' l = some (.lst (qs.map V.ref)) → PairsAt H' par qs tl.reverse → Order m r par tl → Q (.ref l) H') ∧ (¬ (0 ≤ r ∧ r < m) → E (.ref T.NoPlace) none H)
abbrev s_inward : Stmt := top 24
theorem sc_inward : FnScope ["web", "r", "nearer"] ["web", "r"] (defScope s_inward) := FnScope.of (by kernel_rfl)
theorem n_inward__web : NmL (defScope s_inward) "web" := .of (by kernel_rfl)
theorem n_inward__r : NmC (defScope s_inward) "r" := .of (by kernel_rfl)
theorem n_inward__nearer : NmC (defScope s_inward) "nearer" := .of (by kernel_rfl)
theorem n_inward__ahead : NmG (defScope s_inward) "ahead" := .of (by kernel_rfl)
theorem n_inward__reversed : NmG (defScope s_inward) "reversed" := .of (by kernel_rfl)
theorem n_inward__down : NmG (defScope s_inward) "down" := .of (by kernel_rfl)

theorem ok_inward (T : Txt K mg) (hq : Quiet (CXe P w)) {f : Addr} {fd : FuncData} (D : Df K mg "inward" s_inward ["web", "r"] f fd) {f_ahead : Addr} {fd_ahead : FuncData} (D_ahead : Df K mg "ahead" s_ahead ["web", "r"] f_ahead fd_ahead) (G_ahead : FnOk P w K mg base (CXe P w) 5 f_ahead fd_ahead ["web", "r"] (sp_ahead T)) {f_down : Addr} {fd_down : FuncData} (D_down : Df K mg "down" s_down ["web", "r"] f_down fd_down) (G_down : FnOk P w K mg base (CXe P w) 6 f_down fd_down ["web", "r"] (sp_down T)) : FnOk P w K mg base (CXe P w) 7 f fd ["web", "r"] (sp_inward T) := by
  refine D.F.okX sc_inward (fun vs H Q E h => ?_) (fun cdv A outer s H vs Q E hr h => ?_)
  · obtain ⟨p, t, m, ps, rs, r, rfl, _⟩ := h
    rfl
  · obtain ⟨p, t, m, ps, rs, r, rfl, W, k, e⟩ := h
    have g := W.go
    have m24 := g.m24
    refine ⟨_, (pss_cons (ps_set (i := 2) sc_inward.nd rfl (Or.inr n_inward__nearer.l) (pe_call G_ahead (hr.mono (by decide)) n_inward__ahead.g D_ahead.m D_ahead.F.kp D_ahead.b .nil passX (pa_cons (pvl 0 n_inward__web) (pa_cons (pvc 1 n_inward__r) pa_nil)) (hdb := n_inward__ahead.d))) (pss_one (ps_ret (pe_comp rfl (ct_clos (Nc := ["place", "nearer", "r"]) 1 [2, 1] (by decide +kernel) rfl (by decide +kernel) rfl (by show ∀ (y : Str × NameKind), y ∈ _ → y.2 = NameKind.free → (defScope s_inward).names.lookup y.1 = some NameKind.cell; decide +kernel) rfl (fun _ h => cell_has h) (fun i hi => match i, hi with | 0, _ => ⟨"nearer", 2, rfl, rfl, rfl, by decide +kernel⟩ | 1, _ => ⟨"r", 1, rfl, rfl, rfl, by decide +kernel⟩ | i + 2, hi => absurd hi (by show ¬ i + 2 < 2; omega))) (pi_rev n_inward__reversed.g T.reversed (pe_call G_down (hr.mono (by decide)) n_inward__down.g D_down.m D_down.F.kp D_down.b .nil passX (pa_cons (pvl 0 n_inward__web) (pa_cons (pvc 1 n_inward__r) pa_nil)) (hdb := n_inward__down.d))) (fun _ _ _ _ => (pg_name (i := 0) (show (["place", "nearer", "r"] : List Str).Nodup from by decide +kernel) rfl (Or.inl rfl))) (fun _ _ _ _ => (pts_one (pt_cmpR op_ne (pv 0) (pv 2) (nomark _)))) (fun _ _ _ _ => (pe_tup (pa_cons (pv 0) (pa_cons (pe_ix (ix_listK K rfl) (pv 1) (pv 0) (fun _ _ => rfl)) pa_nil)))))))), ?_⟩
    rw [show L2.start ["web", "r", "nearer"] [V.ref p, V.int r] = [some (V.ref p), some (V.int r), none] from rfl]
    walk_at "rd"
    refine ex6 p t m ps rs r ?_
    refine an4 rfl W (fun r0 r1 => ?_) e
    obtain ⟨par, dep, R, k⟩ := k r0 r1
    refine ⟨par, dep, R, fun l1 H1 n1 s1 e1 => ?_⟩
    refine ex6 p t m ps rs r ?_
    refine an4 rfl (W.same s1) (fun _ _ => ⟨par, dep, R, fun l2 H2 n2 s2 e2 nd al => ?_⟩) (fun z => absurd ⟨r0, r1⟩ z)
    obtain ⟨tl, et, O⟩ := preL_order g R r0 r1 nd al
    have ll := preL_len g R r0 r1
    rw [et] at e2 ll
    rw [List.length_cons] at ll
    refine ⟨l2, rfl, _, SqL.of e2, fun pc npc => ?_⟩
    have e12 := s2 _ _ e1
    have s12 := s1.trans s2
    have npc0 := s12.free npc
    refine comp_rev (K := K) (xs := (r :: tl).map V.int) (fun i zs σ H3 => Same H2 H3 ∧ H3 pc = some (.lst zs) ∧ (∃ qs : List Addr, zs = qs.map V.ref ∧ PairsAt H3 par qs (tl.reverse.take i)) ∧ ∃ v, σ = [v, some (V.ref l1), some (V.int r)]) ⟨Same.new _ npc, upd_same, ⟨[], rfl, .nil⟩, _, rfl⟩ (fun i zs σ H3 _ z => SqL.of (z.1 _ _ e2)) ?_ ?_
    · rintro i x zs σ H3 N hN hx ⟨s3, e3, ⟨qs, rfl, pa⟩, v, rfl⟩
      rw [← List.map_reverse, List.reverse_cons, List.getElem?_map] at hx
      obtain ⟨y, gy, rfl⟩ := Option.map_eq_some_iff.mp hx
      have il := (List.getElem?_eq_some_iff.mp gy).1
      rw [List.length_append, List.length_reverse] at il
      have ql : qs.length = (tl.reverse.take i).length := Paired.length pa
      rw [List.length_take, List.length_reverse] at ql
      walk_at "rd"
      by_cases c : i < tl.length
      · rw [List.getElem?_append_left (by rw [List.length_reverse]; exact c)] at gy
        have ym : y ∈ tl := List.mem_reverse.mp (List.mem_of_getElem? gy)
        have yr := O.rng y ym
        rw [if_pos (O.ne ym)]
        have gp : atI (parL m r par) y = some (V.int (par y)) := by
          have ef : Pb.front r par y = V.int (par y) := by unfold Pb.front; rw [if_neg (O.ne ym)]
          rw [← ef]; exact atI_int yr.1 (parL_get yr.1 yr.2)
        refine ixL (s3 _ _ e12) gp ⟨smallE (by simp), fun q nq => ?_⟩
        have s4 := Same.new (.tup [V.int y, V.int (par y)]) nq
        have nqp : q ≠ pc := fun z => by rw [z, e3] at nq; cases nq
        refine ⟨s4 _ _ e3, small (by rw [List.length_map]; omega), hN _ _ _ ⟨(s3.trans s4).put npc _, upd_same, ⟨qs ++ [q], by rw [List.map_append]; rfl, ?_⟩, _, rfl⟩⟩
        rw [List.take_succ, gy]
        refine PairsAt.snoc (by rw [upd_ne nqp, upd_same]; rfl) ?_
        exact Paired.imp' (fun a b h => by
          rw [upd_ne (ne_of h e3 (by intro z; cases z)), upd_ne (ne_of_none h nq)]; exact h) pa
      · have ei : i = tl.reverse.length := by rw [List.length_reverse]; simp at il; omega
        rw [ei, List.getElem?_append_right (Nat.le_refl _), Nat.sub_self] at gy
        cases gy
        rw [if_neg (fun z => z rfl)]
        refine hN _ _ _ ⟨s3, e3, ⟨qs, rfl, ?_⟩, _, rfl⟩
        rw [List.take_of_length_le (by omega)] at pa ⊢
        exact pa
    · rintro zs σ H3 ⟨s3, e3, ⟨qs, rfl, pa⟩, v, rfl⟩
      rw [List.take_of_length_le (by rw [List.length_map, List.length_reverse, List.length_cons]; omega)] at pa
      exact k pc qs tl H3 et npc0 (s12.trans s3) e3 pa O
/-! #### toll -/
def sp_toll (T : Txt K mg) : Sp := fun vs H Q E => ∃ (p t : Addr) (m : Int) (ps : List Addr) (rs : List Road) (a b : Int), vs = [.ref p, .int a, .int b] ∧ WebAt T.Web H p m t ps rs ∧
  (∀ k, 0 ≤ a → a < m → 0 ≤ b → b < m → tollOf rs a b = some k → Q (.int k) H) ∧ (¬ ((0 ≤ a ∧ a < m) ∧ (0 ≤ b ∧ b < m)) → E (.ref T.NoPlace) none H) ∧ (0 ≤ a → a < m → 0 ≤ b → b < m → tollOf rs a b = none → E (.ref T.NoRoad) none H)
abbrev s_toll : Stmt := top 11
theorem sc_toll : FnScope ["web", "a", "b", "one", "other", "there", "back"] ["web", "a", "b"] (defScope s_toll) := FnScope.of (by kernel_rfl)
theorem n_toll__web : NmL (defScope s_toll) "web" := .of (by kernel_rfl)
theorem n_toll__a : NmL (defScope s_toll) "a" := .of (by kernel_rfl)
theorem n_toll__b : NmL (defScope s_toll) "b" := .of (by kernel_rfl)
theorem n_toll__one : NmL (defScope s_toll) "one" := .of (by kernel_rfl)
theorem n_toll__other : NmL (defScope s_toll) "other" := .of (by kernel_rfl)
theorem n_toll__there : NmL (defScope s_toll) "there" := .of (by kernel_rfl)
theorem n_toll__back : NmL (defScope s_toll) "back" := .of (by kernel_rfl)
theorem n_toll__check_place : NmG (defScope s_toll) "check_place" := .of (by kernel_rfl)
theorem n_toll__NoRoad : NmG (defScope s_toll) "NoRoad" := .of (by kernel_rfl)

theorem ok_toll (T : Txt K mg) (hq : Quiet (CXe P w)) {f : Addr} {fd : FuncData} (D : Df K mg "toll" s_toll ["web", "a", "b"] f fd) {f_check_place : Addr} {fd_check_place : FuncData} (D_check_place : Df K mg "check_place" s_check_place ["web", "number"] f_check_place fd_check_place) (G_check_place : FnOk P w K mg base (CXe P w) 2 f_check_place fd_check_place ["web", "number"] (sp_check_place T)) : FnOk P w K mg base (CXe P w) 3 f fd ["web", "a", "b"] (sp_toll T) := by
  refine D.F.okX sc_toll (fun vs H Q E h => ?_) (fun cdv A outer s H vs Q E hr h => ?_)
  · obtain ⟨p, t, m, ps, rs, a, b, rfl, _⟩ := h
    rfl
  · obtain ⟨p, t, m, ps, rs, a, b, rfl, W, k, e1, e2⟩ := h
    obtain ⟨dx, ob⟩ := W.ob
    refine ⟨_, (pss_cons (ps_expr (pe_call G_check_place (hr.mono (by decide)) n_toll__check_place.g D_check_place.m D_check_place.F.kp D_check_place.b .nil passX (pa_cons (pvl 0 n_toll__web) (pa_cons (pvl 1 n_toll__a) pa_nil)) (hdb := n_toll__check_place.d))) (pss_cons (ps_expr (pe_call G_check_place (hr.mono (by decide)) n_toll__check_place.g D_check_place.m D_check_place.F.kp D_check_place.b .nil passX (pa_cons (pvl 0 n_toll__web) (pa_cons (pvl 2 n_toll__b) pa_nil)) (hdb := n_toll__check_place.d))) (pss_cons (ps_for PassesOwn.leaving rfl (pi_tup (pe_fld  (pvl 0 n_toll__web) rfl)) (pg_tup (n := 4) rfl (pgs_cons (pg_name (i := 3) sc_toll.nd rfl (Or.inl n_toll__one.l)) (pgs_cons (pg_name (i := 4) sc_toll.nd rfl (Or.inl n_toll__other.l)) (pgs_cons (pg_name (i := 5) sc_toll.nd rfl (Or.inl n_toll__there.l)) (pgs_cons (pg_name (i := 6) sc_toll.nd rfl (Or.inl n_toll__back.l)) pgs_nil))))) (pss_cons (ps_if (PW.pt (pw_and (pt_cmpR op_eq (pvl 3 n_toll__one) (pvl 1 n_toll__a) (nomark _)) (pw_and1 (pt_cmpR op_eq (pvl 4 n_toll__other) (pvl 2 n_toll__b) (nomark _))))) (pss_one (ps_ret (pvl 5 n_toll__there))) pss_nil) (pss_one (ps_if (PW.pt (pw_and (pt_cmpR op_eq (pvl 3 n_toll__one) (pvl 2 n_toll__b) (nomark _)) (pw_and1 (pt_cmpR op_eq (pvl 4 n_toll__other) (pvl 1 n_toll__a) (nomark _))))) (pss_one (ps_ret (pvl 6 n_toll__back))) pss_nil)))) (pss_one (ps_raise T.e_NoRoad rfl raisesX n_toll__NoRoad.g T.m_NoRoad (pa_cons pe_str pa_nil) (hdb := n_toll__NoRoad.d)))))), ?_⟩
    rw [show L2.start ["web", "a", "b", "one", "other", "there", "back"] [V.ref p, V.int a, V.int b] = [some (V.ref p), some (V.int a), some (V.int b), none, none, none, none] from rfl]
    walk_at "rd"
    refine ⟨p, t, m, ps, rs, a, rfl, W, fun a0 a1 => ?_, fun z => e1 fun w => z w.1⟩
    refine ⟨p, t, m, ps, rs, b, rfl, W, fun b0 b1 => ?_, fun z => e1 fun w => z w.2⟩
    refine ⟨T.Web, dx, _, ob, T.cl_Web, T.n_roads, _, wflds_roads m t, t, rfl, ⟨_, SqT.of W.tu⟩, ?_⟩
    have hlen : ps.length = rs.length := Paired.length W.ro
    refine for_tupN (K := K) (xs := ps.map V.ref) (fun i σ H2 => H2 = H ∧ tollOf (rs.take i) a b = none ∧ ∃ v1 v2 v3 v4, σ = [some (V.ref p), some (V.int a), some (V.int b), v1, v2, v3, v4]) ⟨rfl, rfl, _, _, _, _, rfl⟩ (fun i σ H2 _ z => by rw [z.1]; exact SqT.of W.tu) ?_ ?_
    · rintro i x σ H2 N hN hx ⟨rfl, hno, v1, v2, v3, v4, rfl⟩
      obtain ⟨q, r, rfl, h1, h2, h3⟩ := W.ro.get hx
      have et : rs.take (i + 1) = rs.take i ++ [r] := by rw [List.take_succ, h2]; rfl
      have split : tollOf rs a b = (tollOf (rs.take i) a b).or ((toll1 a b r).or (tollOf (rs.drop (i + 1)) a b)) := by
        have : rs = rs.take i ++ r :: rs.drop (i + 1) := by
          have hil : i < rs.length := (List.getElem?_eq_some_iff.mp h2).1
          have e : rs[i] = r := by rw [List.getElem?_eq_getElem hil] at h2; exact Option.some.inj h2
          rw [← e, List.getElem_cons_drop, List.take_append_drop]
        conv => lhs; rw [this]
        unfold tollOf
        rw [List.findSome?_append, List.findSome?_cons]
        cases toll1 a b r <;> rfl
      rw [hno, Option.none_or] at split
      walk_at "rd"
      refine ⟨_, SqT.of h3, rfl, _, _, rfl, _, _, rfl, _, _, rfl, _, _, rfl, rfl, ?_⟩
      walk_at "rd"
      have next : toll1 a b r = none → N [some (V.ref p), some (V.int a), some (V.int b), some (V.int r.a), some (V.int r.b), some (V.int r.t), some (V.int r.u)] H2 := fun z => hN _ _ ⟨rfl, by
        rw [et]
        unfold tollOf at hno ⊢
        rw [List.findSome?_append, hno, List.findSome?_cons, z]
        rfl, _, _, _, _, rfl⟩
      have got : ∀ v, toll1 a b r = some v → tollOf rs a b = some v := fun v z => by rw [split, z]; rfl
      unfold toll1 at next got
      split
      · rename_i c1
        split
        · rename_i c2
          exact k _ a0 a1 b0 b1 (got _ (by rw [if_pos ⟨c1, c2⟩]))
        · rename_i c2
          split
          · rename_i c3
            split
            · rename_i c4
              exact k _ a0 a1 b0 b1 (got _ (by rw [if_neg (fun z => c2 z.2), if_pos ⟨c3, c4⟩]))
            · rename_i c4
              exact next (by rw [if_neg (fun z => c2 z.2), if_neg (fun z => c4 z.2)])
          · rename_i c3
            exact next (by rw [if_neg (fun z => c2 z.2), if_neg (fun z => c3 z.1)])
      · rename_i c1
        split
        · rename_i c3
          split
          · rename_i c4
            exact k _ a0 a1 b0 b1 (got _ (by rw [if_neg (fun z => c1 z.1), if_pos ⟨c3, c4⟩]))
          · rename_i c4
            exact next (by rw [if_neg (fun z => c1 z.1), if_neg (fun z => c4 z.2)])
        · rename_i c3
          exact next (by rw [if_neg (fun z => c1 z.1), if_neg (fun z => c3 z.1)])
    · rintro σ H2 ⟨rfl, hno, v1, v2, v3, v4, rfl⟩
      rw [List.length_map, hlen, List.take_length] at hno
      walk_at "rd"
      exact ⟨by decide, e2 a0 a1 b0 b1 hno⟩
/-! #### bound_by -/
def sp_bound_by (T : Txt K mg) : Sp := fun vs H Q E => ∃ (p b t : Addr) (c : Bool) (m : Int) (ps : List Addr) (rs : List Road) (xs : List Int) (r w : Int), vs = [.ref p, .int r, .int w, .ref b] ∧ WebAt T.Web H p m t ps rs ∧ SqX K c H b (xs.map V.int) ∧ (xs.length : Int) = m ∧ (∀ x ∈ xs, x.natAbs < 2 ^ 4000) ∧ (w - 1).natAbs < 2 ^ 4000 ∧
  (0 ≤ r → r < m → 1 ≤ w → ∃ par dep, Rooted m rs r par dep ∧ ∀ H', Same H H' → Q (.int (bnd m rs r par xs w)) H') ∧ (¬ (0 ≤ r ∧ r < m) → E (.ref T.NoPlace) none H) ∧ (0 ≤ r → r < m → w < 1 → E (.ref T.BadWish) none H)
abbrev s_bound_by : Stmt := top 28
theorem sc_bound_by : FnScope ["web", "r", "wanted", "weights", "bound", "place", "front"] ["web", "r", "wanted", "weights"] (defScope s_bound_by) := FnScope.of (by kernel_rfl)
theorem n_bound_by__web : NmL (defScope s_bound_by) "web" := .of (by kernel_rfl)
theorem n_bound_by__r : NmL (defScope s_bound_by) "r" := .of (by kernel_rfl)
theorem n_bound_by__wanted : NmL (defScope s_bound_by) "wanted" := .of (by kernel_rfl)
theorem n_bound_by__weights : NmL (defScope s_bound_by) "weights" := .of (by kernel_rfl)
theorem n_bound_by__bound : NmL (defScope s_bound_by) "bound" := .of (by kernel_rfl)
theorem n_bound_by__place : NmL (defScope s_bound_by) "place" := .of (by kernel_rfl)
theorem n_bound_by__front : NmL (defScope s_bound_by) "front" := .of (by kernel_rfl)
theorem n_bound_by__check_wanted : NmG (defScope s_bound_by) "check_wanted" := .of (by kernel_rfl)
theorem n_bound_by__inward : NmG (defScope s_bound_by) "inward" := .of (by kernel_rfl)
theorem n_bound_by__toll : NmG (defScope s_bound_by) "toll" := .of (by kernel_rfl)

theorem ok_bound_by (T : Txt K mg) (hq : Quiet (CXe P w)) {f : Addr} {fd : FuncData} (D : Df K mg "bound_by" s_bound_by ["web", "r", "wanted", "weights"] f fd) {f_check_wanted : Addr} {fd_check_wanted : FuncData} (D_check_wanted : Df K mg "check_wanted" s_check_wanted ["web", "r", "wanted"] f_check_wanted fd_check_wanted) (G_check_wanted : FnOk P w K mg base (CXe P w) 3 f_check_wanted fd_check_wanted ["web", "r", "wanted"] (sp_check_wanted T)) {f_inward : Addr} {fd_inward : FuncData} (D_inward : Df K mg "inward" s_inward ["web", "r"] f_inward fd_inward) (G_inward : FnOk P w K mg base (CXe P w) 7 f_inward fd_inward ["web", "r"] (sp_inward T)) {f_toll : Addr} {fd_toll : FuncData} (D_toll : Df K mg "toll" s_toll ["web", "a", "b"] f_toll fd_toll) (G_toll : FnOk P w K mg base (CXe P w) 3 f_toll fd_toll ["web", "a", "b"] (sp_toll T)) : FnOk P w K mg base (CXe P w) 8 f fd ["web", "r", "wanted", "weights"] (sp_bound_by T) := by
  refine D.F.okX sc_bound_by (fun vs H Q E h => ?_) (fun cdv A outer s H vs Q E hr h => ?_)
  · obtain ⟨p, b, t, c, m, ps, rs, xs, r, w, rfl, _⟩ := h
    rfl
  · obtain ⟨p, b, t, c, m, ps, rs, xs, r, w, rfl, W, hb, xl, xb, wb, k, e, e'⟩ := h
    have g := W.go
    refine ⟨_, (pss_cons (ps_expr (pe_call G_check_wanted (hr.mono (by decide)) n_bound_by__check_wanted.g D_check_wanted.m D_check_wanted.F.kp D_check_wanted.b .nil passX (pa_cons (pvl 0 n_bound_by__web) (pa_cons (pvl 1 n_bound_by__r) (pa_cons (pvl 2 n_bound_by__wanted) pa_nil))) (hdb := n_bound_by__check_wanted.d))) (pss_cons (ps_set (i := 4) sc_bound_by.nd rfl (Or.inl n_bound_by__bound.l) (pe_op op_mulB (pe_ix (ix_any c) (pvl 3 n_bound_by__weights) (pvl 1 n_bound_by__r) (fun _ _ => rfl)) (pe_op op_sub (pvl 2 n_bound_by__wanted) pe_int))) (pss_cons (ps_for PassesOwn.leaving rfl (pi_list (pe_call G_inward (hr.mono (by decide)) n_bound_by__inward.g D_inward.m D_inward.F.kp D_inward.b .nil passX (pa_cons (pvl 0 n_bound_by__web) (pa_cons (pvl 1 n_bound_by__r) pa_nil)) (hdb := n_bound_by__inward.d))) (pg_tup (n := 2) rfl (pgs_cons (pg_name (i := 5) sc_bound_by.nd rfl (Or.inl n_bound_by__place.l)) (pgs_cons (pg_name (i := 6) sc_bound_by.nd rfl (Or.inl n_bound_by__front.l)) pgs_nil))) (pss_one (ps_aug (i := 4) sc_bound_by.nd rfl (Or.inl n_bound_by__bound.l) (pe_op op_mul (pe_ix (ix_any c) (pvl 3 n_bound_by__weights) (pvl 5 n_bound_by__place) (fun _ _ => rfl)) (pe_op op_sub (pe_call G_toll (hr.mono (by decide)) n_bound_by__toll.g D_toll.m D_toll.F.kp D_toll.b .nil passX (pa_cons (pvl 0 n_bound_by__web) (pa_cons (pvl 5 n_bound_by__place) (pa_cons (pvl 6 n_bound_by__front) pa_nil))) (hdb := n_bound_by__toll.d)) pe_int)) ip_add))) (pss_one (ps_ret (pvl 4 n_bound_by__bound)))))), ?_⟩
    rw [show L2.start ["web", "r", "wanted", "weights", "bound", "place", "front"] [V.ref p, V.int r, V.int w, V.ref b] = [some (V.ref p), some (V.int r), some (V.int w), some (V.ref b), none, none, none] from rfl]
    walk_at "rd"
    refine ⟨p, t, m, ps, rs, r, w, rfl, W, fun r0 r1 w1 => ?_, e, e'⟩
    obtain ⟨par, dep, R, k⟩ := k r0 r1 w1
    have gr := atG (xs := xs) r0 (by omega)
    have hm := getD_in (cs := xs) (i := r.toNat) (by omega)
    refine ixX hb gr ⟨_, rfl, mul_ok (xb _ hm) wb, ?_⟩
    refine ex6 p t m ps rs r ?_
    refine an4 rfl W (fun _ _ => ⟨par, dep, R, fun l2 qs tl H2 _ n2 s2 e2 pa O => ?_⟩) (fun z => absurd ⟨r0, r1⟩ z)
    refine ⟨l2, rfl, ⟨_, SqL.of e2⟩, ?_⟩
    have ql : qs.length = tl.reverse.length := Paired.length pa
    refine for_listH (K := K) (xs := qs.map V.ref) (fun i σ H3 => H3 = H2 ∧ ∃ (v5 v6 : Option V), σ = [some (V.ref p), some (V.int r), some (V.int w), some (V.ref b), some (V.int (xs.getD r.toNat 0 * (w - 1) + ((tl.reverse.take i).map (slk rs par xs)).sum)), v5, v6]) ⟨rfl, _, _, by rw [List.take_zero, List.map_nil, List.sum_nil, Int.add_zero]⟩ (fun i σ H3 _ z => by rw [z.1]; exact SqL.of e2) ?_ ?_
    · rintro i x σ H3 N BB hBB hN hx ⟨rfl, v5, v6, rfl⟩
      refine hBB _ _ ?_
      obtain ⟨q, v, rfl, hq, hv, eq⟩ := pa.get hx
      have vm := List.mem_reverse.mp (List.mem_of_getElem? hv)
      have vr := O.rng v vm
      have u := R.up v vr.1 vr.2 (O.ne vm)
      obtain ⟨kk, hk, k0, k1⟩ := toll_up g R vr.1 vr.2 (O.ne vm)
      walk_at "rd"
      refine ⟨_, SqT.of eq, rfl, _, _, rfl, _, _, rfl, rfl, ?_⟩
      refine ixX (Same.sqX s2 hb) (atG vr.1 (by omega)) ?_
      refine ⟨p, t, m, ps, rs, v, par v, rfl, W.same s2, fun k' _ _ _ _ h => ?_, fun z => absurd ⟨vr, u.1⟩ z, fun _ _ _ _ z => by rw [hk] at z; cases z⟩
      rw [hk] at h
      cases h
      refine ⟨_, rfl, _, rfl, .inr ⟨by omega, by omega⟩, hN _ _ ⟨rfl, some (V.int v), some (V.int (par v)), ?_⟩⟩
      rw [take_sum hv]
      unfold slk
      rw [hk, Int.add_assoc]
      rfl
    · rintro BB σ H3 hBB ⟨rfl, v5, v6, rfl⟩
      refine hBB _ _ ?_
      rw [List.length_map, ql, List.take_length, List.map_reverse, List.sum_reverse, O.sums]
      walk_at "rd"
      exact k _ s2
/-! #### borne -/
def sp_borne (T : Txt K mg) : Sp := fun vs H Q _ => ∃ (p b t : Addr) (c : Bool) (m : Int) (ps : List Addr) (rs : List Road) (xs : List Int) (v u k : Int), vs = [.ref p, .ref b, .int v, .int u] ∧ WebAt T.Web H p m t ps rs ∧ SqX K c H b (xs.map V.int) ∧ (0 ≤ v ∧ v < m ∧ v < xs.length) ∧ (0 ≤ u ∧ u < m) ∧ tollOf rs v u = some k ∧ k ≤ 1000000 ∧ 2 ≤ k ∧ Q (.int (xs.getD v.toNat 0 * k)) H
abbrev s_borne : Stmt := top 26
theorem sc_borne : FnScope ["web", "weights", "place", "front"] ["web", "weights", "place", "front"] (defScope s_borne) := FnScope.of (by kernel_rfl)
theorem n_borne__web : NmL (defScope s_borne) "web" := .of (by kernel_rfl)
theorem n_borne__weights : NmL (defScope s_borne) "weights" := .of (by kernel_rfl)
theorem n_borne__place : NmL (defScope s_borne) "place" := .of (by kernel_rfl)
theorem n_borne__front : NmL (defScope s_borne) "front" := .of (by kernel_rfl)
theorem n_borne__toll : NmG (defScope s_borne) "toll" := .of (by kernel_rfl)

theorem ok_borne (T : Txt K mg) (hq : Quiet (CXe P w)) {f : Addr} {fd : FuncData} (D : Df K mg "borne" s_borne ["web", "weights", "place", "front"] f fd) {f_toll : Addr} {fd_toll : FuncData} (D_toll : Df K mg "toll" s_toll ["web", "a", "b"] f_toll fd_toll) (G_toll : FnOk P w K mg base (CXe P w) 3 f_toll fd_toll ["web", "a", "b"] (sp_toll T)) : FnOk P w K mg base (CXe P w) 4 f fd ["web", "weights", "place", "front"] (sp_borne T) := by
  refine D.F.okX sc_borne (fun vs H Q E h => ?_) (fun cdv A outer s H vs Q E hr h => ?_)
  · obtain ⟨p, b, t, c, m, ps, rs, xs, v, u, k, rfl, _⟩ := h
    rfl
  · obtain ⟨p, b, t, c, m, ps, rs, xs, v, u, kk, rfl, W, hb, vr, ur, hk, k1, k2, k⟩ := h
    refine ⟨_, (pss_one (ps_ret (pe_op op_mul (pe_ix (ix_any c) (pvl 1 n_borne__weights) (pvl 2 n_borne__place) (fun _ _ => rfl)) (pe_call G_toll (hr.mono (by decide)) n_borne__toll.g D_toll.m D_toll.F.kp D_toll.b .nil passX (pa_cons (pvl 0 n_borne__web) (pa_cons (pvl 2 n_borne__place) (pa_cons (pvl 3 n_borne__front) pa_nil))) (hdb := n_borne__toll.d))))), ?_⟩
    rw [show L2.start ["web", "weights", "place", "front"] [V.ref p, V.ref b, V.int v, V.int u] = [some (V.ref p), some (V.ref b), some (V.int v), some (V.int u)] from rfl]
    walk_at "rd"
    refine ixX hb (atG vr.1 vr.2.2) ?_
    refine ⟨p, t, m, ps, rs, v, u, rfl, W, fun k' _ _ _ _ h => ?_, fun z => absurd ⟨⟨vr.1, vr.2.1⟩, ur⟩ z, fun _ _ _ _ z => by rw [hk] at z; cases z⟩
    rw [hk] at h
    cases h
    exact ⟨_, rfl, _, rfl, .inr ⟨by omega, by omega⟩, k⟩
/-! #### least_weights -/
def sp_least_weights (T : Txt K mg) : Sp := fun vs H Q E => ∃ (p t : Addr) (m : Int) (ps : List Addr) (rs : List Road) (r : Int), vs = [.ref p, .int r] ∧ WebAt T.Web H p m t ps rs ∧
  (0 ≤ r → r < m → ∃ par dep, Rooted m rs r par dep ∧ ∀ l H', H l = none → Same H H' → H' l = some (.lst ((wgtL m rs r par dep).map V.int)) → Q (.ref l) H') ∧ (¬ (0 ≤ r ∧ r < m) → ∀ H', Same H H' → E (.ref T.NoPlace) none H')
abbrev s_least_weights : Stmt := top 30
theorem sc_least_weights : FnScope ["web", "r", "weights", "place", "front"] ["web", "r"] (defScope s_least_weights) := FnScope.of (by kernel_rfl)
theorem n_least_weights__web : NmL (defScope s_least_weights) "web" := .of (by kernel_rfl)
theorem n_least_weights__r : NmL (defScope s_least_weights) "r" := .of (by kernel_rfl)
theorem n_least_weights__weights : NmL (defScope s_least_weights) "weights" := .of (by kernel_rfl)
theorem n_least_weights__place : NmL (defScope s_least_weights) "place" := .of (by kernel_rfl)
theorem n_least_weights__front : NmL (defScope s_least_weights) "front" := .of (by kernel_rfl)
theorem n_least_weights__inward : NmG (defScope s_least_weights) "inward" := .of (by kernel_rfl)
theorem n_least_weights__max : NmG (defScope s_least_weights) "max" := .of (by kernel_rfl)
theorem n_least_weights__borne : NmG (defScope s_least_weights) "borne" := .of (by kernel_rfl)

theorem ok_least_weights (T : Txt K mg) (hq : Quiet (CXe P w)) {f : Addr} {fd : FuncData} (D : Df K mg "least_weights" s_least_weights ["web", "r"] f fd) {f_borne : Addr} {fd_borne : FuncData} (D_borne : Df K mg "borne" s_borne ["web", "weights", "place", "front"] f_borne fd_borne) (G_borne : FnOk P w K mg base (CXe P w) 4 f_borne fd_borne ["web", "weights", "place", "front"] (sp_borne T)) {f_inward : Addr} {fd_inward : FuncData} (D_inward : Df K mg "inward" s_inward ["web", "r"] f_inward fd_inward) (G_inward : FnOk P w K mg base (CXe P w) 7 f_inward fd_inward ["web", "r"] (sp_inward T)) : FnOk P w K mg base (CXe P w) 8 f fd ["web", "r"] (sp_least_weights T) := by
  refine D.F.okX sc_least_weights (fun vs H Q E h => ?_) (fun cdv A outer s H vs Q E hr h => ?_)
  · obtain ⟨p, t, m, ps, rs, r, rfl, _⟩ := h
    rfl
  · obtain ⟨p, t, m, ps, rs, r, rfl, W, k, e⟩ := h
    have g := W.go
    have m1 := g.m1
    have m24 := g.m24
    obtain ⟨dx, ob⟩ := W.ob
    refine ⟨_, (pss_cons (ps_set (i := 2) sc_least_weights.nd rfl (Or.inl n_least_weights__weights.l) (pe_op op_rep (pe_lst (pa_cons pe_int pa_nil)) (pe_fld  (pvl 0 n_least_weights__web) rfl))) (pss_cons (ps_for PassesOwn.leaving rfl (pi_list (pe_call G_inward (hr.mono (by decide)) n_least_weights__inward.g D_inward.m D_inward.F.kp D_inward.b .nil passX (pa_cons (pvl 0 n_least_weights__web) (pa_cons (pvl 1 n_least_weights__r) pa_nil)) (hdb := n_least_weights__inward.d))) (pg_tup (n := 2) rfl (pgs_cons (pg_name (i := 3) sc_least_weights.nd rfl (Or.inl n_least_weights__place.l)) (pgs_cons (pg_name (i := 4) sc_least_weights.nd rfl (Or.inl n_least_weights__front.l)) pgs_nil))) (pss_one (ps_asg (pe_callB (call_max2 rfl) n_least_weights__max.g T.max pb_max (pa_cons (pe_ix ix_list (pvl 2 n_least_weights__weights) (pvl 4 n_least_weights__front) (fun _ _ => rfl)) (pa_cons (pe_call G_borne (hr.mono (by decide)) n_least_weights__borne.g D_borne.m D_borne.F.kp D_borne.b .nil passX (pa_cons (pvl 0 n_least_weights__web) (pa_cons (pvl 2 n_least_weights__weights) (pa_cons (pvl 3 n_least_weights__place) (pa_cons (pvl 4 n_least_weights__front) pa_nil)))) (hdb := n_least_weights__borne.d)) pa_nil)) (hn := n_least_weights__max.n) (hdb := n_least_weights__max.d)) (pg_sub (pvl 2 n_least_weights__weights) (pvl 4 n_least_weights__front) set_list)))) (pss_one (ps_ret (pvl 2 n_least_weights__weights))))), ?_⟩
    rw [show L2.start ["web", "r", "weights", "place", "front"] [V.ref p, V.int r] = [some (V.ref p), some (V.int r), none, none, none] from rfl]
    walk_at "rd"
    refine ⟨smallE (by simp), fun l0 n0 => ?_⟩
    have s0 := Same.new (.lst [V.int 1]) n0
    refine ⟨T.Web, dx, _, s0 _ _ ob, T.cl_Web, T.n_many, _, wflds_many m t, ?_⟩
    refine ⟨l0, m, _, rfl, rfl, upd_same, by omega, by omega, smallE (by simp; omega), fun l n1 => ?_⟩
    rw [flatR]
    have s1 := s0.trans (Same.new (.lst (List.replicate m.toNat (V.int 1))) n1)
    have nl := s0.free n1
    have e1 : upd (upd H l0 (.lst [V.int 1])) l (.lst (List.replicate m.toNat (V.int 1))) l = some (.lst ((List.replicate m.toNat (1 : Int)).map V.int)) := by rw [upd_same, List.map_replicate]
    generalize upd (upd H l0 (.lst [V.int 1])) l (.lst (List.replicate m.toNat (V.int 1))) = H1 at s1 e1 ⊢
    refine ex6 p t m ps rs r ?_
    refine an4 rfl (W.same s1) (fun r0 r1 => ?_) (fun z => e z H1 s1)
    obtain ⟨par, dep, R, k⟩ := k r0 r1
    refine ⟨par, dep, R, fun l2 qs tl H2 _ n2 s2 e2 pa O => ?_⟩
    have nll : l2 ≠ l := fun z => by rw [z, e1] at n2; cases n2
    refine ⟨l2, rfl, ⟨_, SqL.of e2⟩, ?_⟩
    have ql : qs.length = tl.reverse.length := Paired.length pa
    have st : Sofo mx m rs r par dep (fun _ => 1) (bor rs par) [] (List.replicate m.toNat (1 : Int)) := Sofo.nil (by rw [List.length_replicate]; omega) fun v v0 v1 => by
      rw [List.getD, List.getElem?_replicate_of_lt (by omega)]; rfl
    refine for_listH (K := K) (xs := qs.map V.ref) (fun i σ H3 => Same H H3 ∧ H3 l2 = some (.lst (qs.map V.ref)) ∧ PairsAt H3 par qs tl.reverse ∧ ∃ (cs : List Int) (v4 v5 : Option V), H3 l = some (.lst (cs.map V.int)) ∧ Sofo mx m rs r par dep (fun _ => 1) (bor rs par) (tl.drop (tl.length - i)) cs ∧ σ = [some (V.ref p), some (V.int r), some (V.ref l), v4, v5]) ⟨s1.trans s2, e2, pa, _, _, _, s2 _ _ e1, by rw [Nat.sub_zero, List.drop_length]; exact st, rfl⟩ (fun i σ H3 _ z => SqL.of z.2.1) ?_ ?_
    · rintro i x σ H3 N BB hBB hN hx ⟨s3, e3, pa3, cs, v4, v5, c3, so, rfl⟩
      refine hBB _ _ ?_
      obtain ⟨q, v, rfl, hq, hv, eq⟩ := pa3.get hx
      obtain ⟨⟨vr, vn⟩, ev, so'⟩ := O.turnF mx_comm g R so hv
      have u := R.up v vr.1 vr.2 vn
      obtain ⟨kk, hk, k0, k1⟩ := toll_up g R vr.1 vr.2 vn
      have cl := so.len
      walk_at "rd"
      refine ⟨_, SqT.of eq, rfl, _, _, rfl, _, _, rfl, rfl, ?_⟩
      refine ixL c3 (atG u.1.1 (by omega)) ?_
      refine ⟨p, l, t, true, m, ps, rs, cs, v, par v, kk, rfl, W.same s3, SqL.of c3, ⟨vr.1, vr.2, by omega⟩, u.1, hk, k1, k0, ?_⟩
      refine ⟨_, _, ⟨rfl, rfl⟩, setR c3 u.1.1 (by rw [List.length_map]; omega) (hN _ _ ⟨s3.put nl _, ?_, ?_, fstep mx par (bor rs par) cs v, _, _, ?_, so', rfl⟩)⟩
      · rw [upd_ne nll]; exact e3
      · exact Paired.imp' (fun a b h => by rw [upd_ne (ne_of h c3 (by intro z; cases z))]; exact h) pa3
      · rw [upd_same, ← List.map_set]
        unfold fstep bor mx
        rw [hk]
        rfl
    · rintro BB σ H3 hBB ⟨s3, e3, pa3, cs, v4, v5, c3, so, rfl⟩
      refine hBB _ _ ?_
      rw [List.length_map, ql, List.length_reverse, Nat.sub_self, List.drop_zero] at so
      rw [O.doneF mx_comm g R so] at c3
      walk_at "rd"
      exact k l H3 nl s3 c3
/-! #### enough -/
def sp_enough (T : Txt K mg) : Sp := fun vs H Q E => ∃ (p t : Addr) (m : Int) (ps : List Addr) (rs : List Road) (r w : Int), vs = [.ref p, .int r, .int w] ∧ WebAt T.Web H p m t ps rs ∧ w ≤ 10 ^ 60 ∧ -(10 ^ 60) ≤ w ∧
  (0 ≤ r → r < m → 1 ≤ w → ∃ par dep, Rooted m rs r par dep ∧ ∀ H', Same H H' → Q (.int (bnd m rs r par (wgtL m rs r par dep) w + 1)) H') ∧ (¬ (0 ≤ r ∧ r < m) → ∀ H', Same H H' → E (.ref T.NoPlace) none H') ∧ (0 ≤ r → r < m → w < 1 → ∀ H', Same H H' → E (.ref T.BadWish) none H')
abbrev s_enough : Stmt := top 31
theorem sc_enough : FnScope ["web", "r", "wanted"] ["web", "r", "wanted"] (defScope s_enough) := FnScope.of (by kernel_rfl)
theorem n_enough__web : NmL (defScope s_enough) "web" := .of (by kernel_rfl)
theorem n_enough__r : NmL (defScope s_enough) "r" := .of (by kernel_rfl)
theorem n_enough__wanted : NmL (defScope s_enough) "wanted" := .of (by kernel_rfl)
theorem n_enough__bound_by : NmG (defScope s_enough) "bound_by" := .of (by kernel_rfl)
theorem n_enough__least_weights : NmG (defScope s_enough) "least_weights" := .of (by kernel_rfl)

theorem ok_enough (T : Txt K mg) (hq : Quiet (CXe P w)) {f : Addr} {fd : FuncData} (D : Df K mg "enough" s_enough ["web", "r", "wanted"] f fd) {f_bound_by : Addr} {fd_bound_by : FuncData} (D_bound_by : Df K mg "bound_by" s_bound_by ["web", "r", "wanted", "weights"] f_bound_by fd_bound_by) (G_bound_by : FnOk P w K mg base (CXe P w) 8 f_bound_by fd_bound_by ["web", "r", "wanted", "weights"] (sp_bound_by T)) {f_least_weights : Addr} {fd_least_weights : FuncData} (D_least_weights : Df K mg "least_weights" s_least_weights ["web", "r"] f_least_weights fd_least_weights) (G_least_weights : FnOk P w K mg base (CXe P w) 8 f_least_weights fd_least_weights ["web", "r"] (sp_least_weights T)) : FnOk P w K mg base (CXe P w) 9 f fd ["web", "r", "wanted"] (sp_enough T) := by
  refine D.F.okX sc_enough (fun vs H Q E h => ?_) (fun cdv A outer s H vs Q E hr h => ?_)
  · obtain ⟨p, t, m, ps, rs, r, w, rfl, _⟩ := h
    rfl
  · obtain ⟨p, t, m, ps, rs, r, w, rfl, W, w2, w0, k, e, e'⟩ := h
    have g := W.go
    have m1 := g.m1
    refine ⟨_, (pss_one (ps_ret (pe_op op_add (pe_call G_bound_by (hr.mono (by decide)) n_enough__bound_by.g D_bound_by.m D_bound_by.F.kp D_bound_by.b .nil passX (pa_cons (pvl 0 n_enough__web) (pa_cons (pvl 1 n_enough__r) (pa_cons (pvl 2 n_enough__wanted) (pa_cons (pe_call G_least_weights (hr.mono (by decide)) n_enough__least_weights.g D_least_weights.m D_least_weights.F.kp D_least_weights.b .nil passX (pa_cons (pvl 0 n_enough__web) (pa_cons (pvl 1 n_enough__r) pa_nil)) (hdb := n_enough__least_weights.d)) pa_nil)))) (hdb := n_enough__bound_by.d)) pe_int))), ?_⟩
    rw [show L2.start ["web", "r", "wanted"] [V.ref p, V.int r, V.int w] = [some (V.ref p), some (V.int r), some (V.int w)] from rfl]
    walk_at "rd"
    refine ⟨p, t, m, ps, rs, r, rfl, W, fun r0 r1 => ?_, e⟩
    have wb : (w - 1).natAbs < 2 ^ 4000 := want_bits2 w0 w2
    by_cases w1 : 1 ≤ w
    · obtain ⟨par, dep, R, k⟩ := k r0 r1 w1
      refine ⟨par, dep, R, fun l H1 nl s1 el => ?_⟩
      have ll : ((wgtL m rs r par dep).length : Int) = m := by rw [foL_len]; omega
      exact ⟨p, l, t, true, m, ps, rs, wgtL m rs r par dep, r, w, rfl, W.same s1, SqL.of el, ll, wgtL_bits g R, wb, fun _ _ _ => ⟨par, dep, R, fun H2 s2 => ⟨_, rfl, k H2 (s1.trans s2)⟩⟩, fun z => absurd ⟨r0, r1⟩ z, fun _ _ z => absurd w1 (by omega)⟩
    · obtain ⟨par, dep, R⟩ := rooted g r0 r1
      refine ⟨par, dep, R, fun l H1 nl s1 el => ?_⟩
      have ll : ((wgtL m rs r par dep).length : Int) = m := by rw [foL_len]; omega
      exact ⟨p, l, t, true, m, ps, rs, wgtL m rs r par dep, r, w, rfl, W.same s1, SqL.of el, ll, wgtL_bits g R, wb, fun _ _ z => absurd z w1, fun z => absurd ⟨r0, r1⟩ z, fun _ _ z => e' r0 r1 z H1 s1⟩
/-! #### weighed -/
def sp_weighed (T : Txt K mg) : Sp := fun vs H Q _ => ∃ (a b : Addr) (xs ys : List Int), vs = [.ref a, .ref b] ∧ H a = some (.lst (xs.map V.int)) ∧ H b = some (.lst (ys.map V.int)) ∧ xs.length = ys.length ∧ xs.length ≤ 1000 ∧ (∀ x ∈ xs, x.natAbs < 2 ^ 4000) ∧ (∀ y ∈ ys, y.natAbs < 2 ^ 4000) ∧ ∀ H', Same H H' → Q (.int ((List.range xs.length).map fun i => xs.getD i 0 * ys.getD i 0).sum) H'
abbrev s_weighed : Stmt := top 27
theorem sc_weighed : FnScope ["weights", "laying"] ["weights", "laying"] (defScope s_weighed) := FnScope.of (by kernel_rfl)
theorem n_weighed__weights : NmL (defScope s_weighed) "weights" := .of (by kernel_rfl)
theorem n_weighed__laying : NmL (defScope s_weighed) "laying" := .of (by kernel_rfl)
theorem n_weighed__sum : NmG (defScope s_weighed) "sum" := .of (by kernel_rfl)
theorem n_weighed__zip : NmG (defScope s_weighed) "zip" := .of (by kernel_rfl)

theorem ok_weighed (T : Txt K mg) (hq : Quiet (CXe P w)) {f : Addr} {fd : FuncData} (D : Df K mg "weighed" s_weighed ["weights", "laying"] f fd) : FnOk P w K mg base (CXe P w) 1 f fd ["weights", "laying"] (sp_weighed T) := by
  refine D.F.okC sc_weighed (fun vs H Q E h => ?_) (fun cdv A outer s H vs Q E hr h => ?_)
  · obtain ⟨a, b, xs, ys, rfl, _⟩ := h
    rfl
  · obtain ⟨a, b, xs, ys, rfl, ha, hb, hl, hz, xb, yb, k⟩ := h
    refine ⟨_, (pss_one (ps_ret (pe_callB (call_sum rfl) n_weighed__sum.g T.sum pb_sum (pa_cons (pe_comp rfl (ct_plain (Nc := ["weight", "many"]) 2 (by decide +kernel) (by decide +kernel) rfl (by decide +kernel) rfl) (pi_zip true true n_weighed__zip.g T.zip (pa_cons (pvl 0 n_weighed__weights) (pa_cons (pvl 1 n_weighed__laying) pa_nil))) (fun _ _ _ _ => (pg_tupK K rfl (n := 2) rfl (pgs_cons (pg_name (i := 0) (show (["weight", "many"] : List Str).Nodup from by decide +kernel) rfl (Or.inl rfl)) (pgs_cons (pg_name (i := 1) (show (["weight", "many"] : List Str).Nodup from by decide +kernel) rfl (Or.inl rfl)) pgs_nil)))) (fun _ _ _ _ => pts_nil) (fun _ _ _ _ => (pe_op op_mulB (pv 0) (pv 1)))) pa_nil) (hn := n_weighed__sum.n) (hdb := n_weighed__sum.d)))), ?_⟩
    rw [show L2.start ["weights", "laying"] [V.ref a, V.ref b] = [some (V.ref a), some (V.ref b)] from rfl]
    walk_at "rd"
    refine ⟨a, b, ⟨rfl, rfl⟩, ⟨_, SqL.of ha⟩, ⟨_, SqL.of hb⟩, fun p np => ?_⟩
    refine comp_zip (K := K) (c := true) (d := true) (xs := xs.map V.int) (zs := ys.map V.int) (fun i zs σ H2 => Same H H2 ∧ H2 p = some (.lst zs) ∧ zs = ((List.range i).map fun i => xs.getD i 0 * ys.getD i 0).map V.int ∧ ∃ v w, σ = [v, w]) ⟨Same.new _ np, upd_same, rfl, _, _, rfl⟩ (fun i zs σ H2 z => ⟨SqL.of (z.1 _ _ ha), SqL.of (z.1 _ _ hb)⟩) ?_ ?_
    · rintro i x z zs σ H2 q N hN hx hz' ⟨s2, e2, rfl, v, w, rfl⟩ hq'
      rw [List.getElem?_map] at hx hz'
      obtain ⟨x, gx, rfl⟩ := Option.map_eq_some_iff.mp hx
      obtain ⟨z, gz, rfl⟩ := Option.map_eq_some_iff.mp hz'
      have s3 := Same.new (.tup [V.int x, V.int z]) hq'
      have hix := (List.getElem?_eq_some_iff.mp gx).1
      have mo : IntMulOk x z := mul_ok (xb x (List.mem_of_getElem? gx)) (yb z (List.mem_of_getElem? gz))
      walk_at "rd"
      refine ⟨_, SqT.of upd_same, rfl, _, _, rfl, _, _, rfl, rfl, ?_⟩
      walk_at "rd"
      refine ⟨mo, s3 _ _ e2, small (by simp; omega), hN _ _ _ ⟨(s2.trans s3).put np _, upd_same, ?_, _, _, rfl⟩⟩
      rw [List.range_succ, List.map_append, List.map_append, List.map_singleton, List.map_singleton, List.getD, gx, List.getD, gz]
      rfl
    · rintro zs σ H2 ⟨s2, e2, rfl, v, w, rfl⟩
      rw [List.length_map, List.length_map, ← hl, Nat.min_self] at e2
      exact ⟨p, rfl, _, .inl (SqL.of e2), k H2 s2⟩
/-! #### law -/
def spLaw (K : PySem.W.Frag) : Sp := fun vs H Q _ => ∃ (a : Addr) (ns : List Int), vs = [.ref a] ∧ SqL K H a (ns.map V.int) ∧ ns.length ≤ 63 ∧ ∀ H', Q (.bl true) H'
def sp_law (T : Txt K mg) : Sp := spLaw K
abbrev s_law : Stmt := top 48
theorem sc_law : FnScope ["script", "numbers", "many", "roads", "tolls", "r", "order", "wanted", "web", "need", "scales", "bounds", "cell", "near", "laying", "more", "at"] ["script"] (defScope s_law) := FnScope.of (by kernel_rfl)
theorem n_law__script : NmL (defScope s_law) "script" := .of (by kernel_rfl)
theorem n_law__numbers : NmL (defScope s_law) "numbers" := .of (by kernel_rfl)
theorem n_law__many : NmL (defScope s_law) "many" := .of (by kernel_rfl)
theorem n_law__roads : NmL (defScope s_law) "roads" := .of (by kernel_rfl)
theorem n_law__tolls : NmL (defScope s_law) "tolls" := .of (by kernel_rfl)
theorem n_law__r : NmC (defScope s_law) "r" := .of (by kernel_rfl)
theorem n_law__order : NmL (defScope s_law) "order" := .of (by kernel_rfl)
theorem n_law__wanted : NmC (defScope s_law) "wanted" := .of (by kernel_rfl)
theorem n_law__web : NmC (defScope s_law) "web" := .of (by kernel_rfl)
theorem n_law__need : NmL (defScope s_law) "need" := .of (by kernel_rfl)
theorem n_law__scales : NmL (defScope s_law) "scales" := .of (by kernel_rfl)
theorem n_law__bounds : NmL (defScope s_law) "bounds" := .of (by kernel_rfl)
theorem n_law__cell : NmL (defScope s_law) "cell" := .of (by kernel_rfl)
theorem n_law__near : NmL (defScope s_law) "near" := .of (by kernel_rfl)
theorem n_law__laying : NmL (defScope s_law) "laying" := .of (by kernel_rfl)
theorem n_law__more : NmL (defScope s_law) "more" := .of (by kernel_rfl)
theorem n_law__at : NmL (defScope s_law) "at" := .of (by kernel_rfl)
theorem n_law__law_numbers : NmG (defScope s_law) "_law_numbers" := .of (by kernel_rfl)
theorem n_law__law_web : NmG (defScope s_law) "_law_web" := .of (by kernel_rfl)
theorem n_law__law_tolls : NmG (defScope s_law) "_law_tolls" := .of (by kernel_rfl)
theorem n_law__law_down : NmG (defScope s_law) "_law_down" := .of (by kernel_rfl)
theorem n_law__law_wanted : NmG (defScope s_law) "_law_wanted" := .of (by kernel_rfl)
theorem n_law__law_cell : NmG (defScope s_law) "_law_cell" := .of (by kernel_rfl)
theorem n_law__Web : NmG (defScope s_law) "Web" := .of (by kernel_rfl)
theorem n_law__list : NmG (defScope s_law) "list" := .of (by kernel_rfl)
theorem n_law__enough : NmG (defScope s_law) "enough" := .of (by kernel_rfl)
theorem n_law__law_slack : NmG (defScope s_law) "_law_slack" := .of (by kernel_rfl)
theorem n_law__least_weights : NmG (defScope s_law) "least_weights" := .of (by kernel_rfl)
theorem n_law__law_spread : NmG (defScope s_law) "_law_spread" := .of (by kernel_rfl)
theorem n_law__law_parted : NmG (defScope s_law) "_law_parted" := .of (by kernel_rfl)
theorem n_law__law_brought_to : NmG (defScope s_law) "_law_brought_to" := .of (by kernel_rfl)
theorem n_law__min : NmG (defScope s_law) "min" := .of (by kernel_rfl)
theorem n_law__law_load : NmG (defScope s_law) "_law_load" := .of (by kernel_rfl)
theorem n_law__law_fewer : NmG (defScope s_law) "_law_fewer" := .of (by kernel_rfl)
theorem n_law__sum : NmG (defScope s_law) "sum" := .of (by kernel_rfl)
theorem n_law__weighed : NmG (defScope s_law) "weighed" := .of (by kernel_rfl)

theorem ok_law (T : Txt K mg) (hq : Quiet (CXe P w)) {f : Addr} {fd : FuncData} (D : Df K mg "law" s_law ["script"] f fd) {f_Web___init__ : Addr} {fd_Web___init__ : FuncData} (F_Web___init__ : Fun K "__init__" "Web.__init__" s_Web___init__ f_Web___init__ fd_Web___init__) (b_Web : Binds K fd_Web___init__ ["self", "many", "roads"] []) (M_Web : Mk K T.Web f_Web___init__) (G_Web_init : FnOk P w K mg base (CXe P w) 3 f_Web___init__ fd_Web___init__ ["self", "many", "roads"] (sp_Web___init__ T)) {f_law_brought_to : Addr} {fd_law_brought_to : FuncData} (D_law_brought_to : Df K mg "_law_brought_to" s_law_brought_to ["laying", "held", "cell"] f_law_brought_to fd_law_brought_to) (G_law_brought_to : FnOk P w K mg base (CXe P w) 1 f_law_brought_to fd_law_brought_to ["laying", "held", "cell"] (sp_law_brought_to T)) {f_law_cell : Addr} {fd_law_cell : FuncData} (D_law_cell : Df K mg "_law_cell" s_law_cell ["script", "k"] f_law_cell fd_law_cell) (G_law_cell : FnOk P w K mg base (CXe P w) 1 f_law_cell fd_law_cell ["script", "k"] (sp_law_cell T)) {f_law_down : Addr} {fd_law_down : FuncData} (D_law_down : Df K mg "_law_down" s_law_down ["many", "tolls", "r"] f_law_down fd_law_down) (G_law_down : FnOk P w K mg base (CXe P w) 1 f_law_down fd_law_down ["many", "tolls", "r"] (sp_law_down T)) {f_law_fewer : Addr} {fd_law_fewer : FuncData} (D_law_fewer : Df K mg "_law_fewer" s_law_fewer ["laying", "cell"] f_law_fewer fd_law_fewer) (G_law_fewer : FnOk P w K mg base (CXe P w) 1 f_law_fewer fd_law_fewer ["laying", "cell"] (sp_law_fewer T)) {f_law_load : Addr} {fd_law_load : FuncData} (D_law_load : Df K mg "_law_load" s_law_load ["tolls", "order", "laying"] f_law_load fd_law_load) (G_law_load : FnOk P w K mg base (CXe P w) 1 f_law_load fd_law_load ["tolls", "order", "laying"] (sp_law_load T)) {f_law_numbers : Addr} {fd_law_numbers : FuncData} (D_law_numbers : Df K mg "_law_numbers" s_law_numbers ["script", "many"] f_law_numbers fd_law_numbers) (G_law_numbers : FnOk P w K mg base (CXe P w) 2 f_law_numbers fd_law_numbers ["script", "many"] (sp_law_numbers T)) {f_law_parted : Addr} {fd_law_parted : FuncData} (D_law_parted : Df K mg "_law_parted" s_law_parted ["held", "many", "cell"] f_law_parted fd_law_parted) (G_law_parted : FnOk P w K mg base (CXe P w) 1 f_law_parted fd_law_parted ["held", "many", "cell"] (sp_law_parted T)) {f_law_slack : Addr} {fd_law_slack : FuncData} (D_law_slack : Df K mg "_law_slack" s_law_slack ["tolls", "order", "numbers"] f_law_slack fd_law_slack) (G_law_slack : FnOk P w K mg base (CXe P w) 1 f_law_slack fd_law_slack ["tolls", "order", "numbers"] (sp_law_slack T)) {f_law_spread : Addr} {fd_law_spread : FuncData} (D_law_spread : Df K mg "_law_spread" s_law_spread ["tolls", "order", "wanted", "cell"] f_law_spread fd_law_spread) (G_law_spread : FnOk P w K mg base (CXe P w) 2 f_law_spread fd_law_spread ["tolls", "order", "wanted", "cell"] (sp_law_spread T)) {f_law_tolls : Addr} {fd_law_tolls : FuncData} (D_law_tolls : Df K mg "_law_tolls" s_law_tolls ["roads"] f_law_tolls fd_law_tolls) (G_law_tolls : FnOk P w K mg base (CXe P w) 1 f_law_tolls fd_law_tolls ["roads"] (sp_law_tolls T)) {f_law_wanted : Addr} {fd_law_wanted : FuncData} (D_law_wanted : Df K mg "_law_wanted" s_law_wanted ["cell"] f_law_wanted fd_law_wanted) (G_law_wanted : FnOk P w K mg base (CXe P w) 1 f_law_wanted fd_law_wanted ["cell"] (sp_law_wanted T)) {f_law_web : Addr} {fd_law_web : FuncData} (D_law_web : Df K mg "_law_web" s_law_web ["numbers"] f_law_web fd_law_web) (G_law_web : FnOk P w K mg base (CXe P w) 2 f_law_web fd_law_web ["numbers"] (sp_law_web T)) {f_bound_by : Addr} {fd_bound_by : FuncData} (D_bound_by : Df K mg "bound_by" s_bound_by ["web", "r", "wanted", "weights"] f_bound_by fd_bound_by) (G_bound_by : FnOk P w K mg base (CXe P w) 8 f_bound_by fd_bound_by ["web", "r", "wanted", "weights"] (sp_bound_by T)) {f_enough : Addr} {fd_enough : FuncData} (D_enough : Df K mg "enough" s_enough ["web", "r", "wanted"] f_enough fd_enough) (G_enough : FnOk P w K mg base (CXe P w) 9 f_enough fd_enough ["web", "r", "wanted"] (sp_enough T)) {f_least_weights : Addr} {fd_least_weights : FuncData} (D_least_weights : Df K mg "least_weights" s_least_weights ["web", "r"] f_least_weights fd_least_weights) (G_least_weights : FnOk P w K mg base (CXe P w) 8 f_least_weights fd_least_weights ["web", "r"] (sp_least_weights T)) {f_weighed : Addr} {fd_weighed : FuncData} (D_weighed : Df K mg "weighed" s_weighed ["weights", "laying"] f_weighed fd_weighed) (G_weighed : FnOk P w K mg base (CXe P w) 1 f_weighed fd_weighed ["weights", "laying"] (sp_weighed T)) : FnOk P w K mg base (CXe P w) 10 f fd ["script"] (sp_law T) := by
  refine D.F.okC sc_law (fun vs H Q E h => ?_) (fun cdv A outer s H vs Q E hr h => ?_)
  · obtain ⟨a, ns, rfl, _⟩ := h
    rfl
  · obtain ⟨a, ns, rfl, ha, hn, k⟩ := h
    have hv := hr.units
    refine ⟨_, (pss_cons (ps_set (i := 1) sc_law.nd rfl (Or.inl n_law__numbers.l) (pe_call G_law_numbers (hr.mono (by decide)) n_law__law_numbers.g D_law_numbers.m D_law_numbers.F.kp D_law_numbers.b .nil (passQ hq) (pa_cons (pvl 0 n_law__script) (pa_cons pe_int pa_nil)) (hdb := n_law__law_numbers.d))) (pss_cons (ps_asg (pe_call G_law_web (hr.mono (by decide)) n_law__law_web.g D_law_web.m D_law_web.F.kp D_law_web.b .nil (passQ hq) (pa_cons (pvl 1 n_law__numbers) pa_nil) (hdb := n_law__law_web.d)) (pg_tup (n := 2) rfl (pgs_cons (pg_name (i := 2) sc_law.nd rfl (Or.inl n_law__many.l)) (pgs_cons (pg_name (i := 3) sc_law.nd rfl (Or.inl n_law__roads.l)) pgs_nil)))) (pss_cons (ps_set (i := 4) sc_law.nd rfl (Or.inl n_law__tolls.l) (pe_call G_law_tolls (hr.mono (by decide)) n_law__law_tolls.g D_law_tolls.m D_law_tolls.F.kp D_law_tolls.b .nil (passQ hq) (pa_cons (pvl 3 n_law__roads) pa_nil) (hdb := n_law__law_tolls.d))) (pss_cons (ps_set (i := 5) sc_law.nd rfl (Or.inr n_law__r.l) (pe_op op_mod (pe_ix ix_list (pvl 1 n_law__numbers) pe_int (fun _ _ => rfl)) (pvl 2 n_law__many))) (pss_cons (ps_set (i := 6) sc_law.nd rfl (Or.inl n_law__order.l) (pe_call G_law_down (hr.mono (by decide)) n_law__law_down.g D_law_down.m D_law_down.F.kp D_law_down.b .nil (passQ hq) (pa_cons (pvl 2 n_law__many) (pa_cons (pvl 4 n_law__tolls) (pa_cons (pvc 5 n_law__r) pa_nil))) (hdb := n_law__law_down.d))) (pss_cons (ps_set (i := 7) sc_law.nd rfl (Or.inr n_law__wanted.l) (pe_call G_law_wanted (hr.mono (by decide)) n_law__law_wanted.g D_law_wanted.m D_law_wanted.F.kp D_law_wanted.b .nil (passQ hq) (pa_cons (pe_call G_law_cell (hr.mono (by decide)) n_law__law_cell.g D_law_cell.m D_law_cell.F.kp D_law_cell.b .nil (passQ hq) (pa_cons (pvl 0 n_law__script) (pa_cons pe_int pa_nil)) (hdb := n_law__law_cell.d)) pa_nil) (hdb := n_law__law_wanted.d))) (pss_cons (ps_set (i := 8) sc_law.nd rfl (Or.inr n_law__web.l) (pe_make M_Web G_Web_init (hr.mono (by decide)) n_law__Web.g T.m_Web b_Web .nil (passQ hq) (pa_cons (pvl 2 n_law__many) (pa_cons (pe_callTy call_list_of n_law__list.g T.list pb_list (pa_cons (pvl 3 n_law__roads) pa_nil) (hn := n_law__list.n) (hdb := n_law__list.d)) pa_nil)) (hdb := n_law__Web.d))) (pss_cons (ps_set (i := 9) sc_law.nd rfl (Or.inl n_law__need.l) (pe_call G_enough (hr.mono (by decide)) n_law__enough.g D_enough.m D_enough.F.kp D_enough.b .nil (passQ hq) (pa_cons (pvc 8 n_law__web) (pa_cons (pvc 5 n_law__r) (pa_cons (pvc 7 n_law__wanted) pa_nil))) (hdb := n_law__enough.d))) (pss_cons (ps_set (i := 10) sc_law.nd rfl (Or.inl n_law__scales.l) (pe_lst (pa_cons (pe_call G_law_slack (hr.mono (by decide)) n_law__law_slack.g D_law_slack.m D_law_slack.F.kp D_law_slack.b .nil (passQ hq) (pa_cons (pvl 4 n_law__tolls) (pa_cons (pvl 6 n_law__order) (pa_cons (pvl 1 n_law__numbers) pa_nil))) (hdb := n_law__law_slack.d)) (pa_cons (pe_call G_least_weights (hr.mono (by decide)) n_law__least_weights.g D_least_weights.m D_least_weights.F.kp D_least_weights.b .nil (passQ hq) (pa_cons (pvc 8 n_law__web) (pa_cons (pvc 5 n_law__r) pa_nil)) (hdb := n_law__least_weights.d)) pa_nil)))) (pss_cons (ps_setComp (i := 11) sc_law.nd rfl n_law__bounds.l rfl (ct_clos (Nc := ["scale", "web", "r", "wanted"]) 1 [8, 5, 7] (by decide +kernel) rfl (by decide +kernel) rfl (by show ∀ (y : Str × NameKind), y ∈ _ → y.2 = NameKind.free → (defScope s_law).names.lookup y.1 = some NameKind.cell; decide +kernel) rfl (fun _ h => cell_has h) (fun i hi => match i, hi with | 0, _ => ⟨"web", 8, rfl, rfl, rfl, by decide +kernel⟩ | 1, _ => ⟨"r", 5, rfl, rfl, rfl, by decide +kernel⟩ | 2, _ => ⟨"wanted", 7, rfl, rfl, rfl, by decide +kernel⟩ | i + 3, hi => absurd hi (by show ¬ i + 3 < 3; omega))) (pi_list (pvl 10 n_law__scales)) (fun _ _ _ _ => (pg_name (i := 0) (show (["scale", "web", "r", "wanted"] : List Str).Nodup from by decide +kernel) rfl (Or.inl rfl))) (fun _ _ _ _ => pts_nil) (fun _ _ _ _ => (pe_call G_bound_by (hr.mono (by decide)) (by rfl) D_bound_by.m D_bound_by.F.kp D_bound_by.b .nil (passQ hq) (pa_cons (pv 1) (pa_cons (pv 2) (pa_cons (pv 3) (pa_cons (pe_callTy (call_list_ofK K rfl) (by rfl) T.list pb_list (pa_cons (pv 0) pa_nil)) pa_nil))))))) (pss_cons (ps_for PassesOwn.never rfl (pi_list (pe_op op_cat (pe_lst (pa_cons pe_int pa_nil)) (pe_slice sl_list (pvl 0 n_law__script) (po_some pe_int) (po_some pe_int)))) (pg_name (i := 12) sc_law.nd rfl (Or.inl n_law__cell.l)) (pss_cons (ps_set (i := 13) sc_law.nd rfl (Or.inl n_law__near.l) (pe_ix ix_tup (pe_call G_law_spread (hr.mono (by decide)) n_law__law_spread.g D_law_spread.m D_law_spread.F.kp D_law_spread.b .nil (passQ hq) (pa_cons (pvl 4 n_law__tolls) (pa_cons (pvl 6 n_law__order) (pa_cons (pvc 7 n_law__wanted) (pa_cons (pe_op op_fdiv (pvl 12 n_law__cell) pe_int) pa_nil)))) (hdb := n_law__law_spread.d)) pe_int (fun _ _ => rfl))) (pss_cons (ps_for PassesOwn.never rfl (pi_list (pe_lst (pa_cons (pe_call G_law_parted (hr.mono (by decide)) n_law__law_parted.g D_law_parted.m D_law_parted.F.kp D_law_parted.b .nil (passQ hq) (pa_cons (pvl 9 n_law__need) (pa_cons (pvl 2 n_law__many) (pa_cons (pvl 12 n_law__cell) pa_nil))) (hdb := n_law__law_parted.d)) (pa_cons (pe_call G_law_brought_to (hr.mono (by decide)) n_law__law_brought_to.g D_law_brought_to.m D_law_brought_to.F.kp D_law_brought_to.b .nil (passQ hq) (pa_cons (pvl 13 n_law__near) (pa_cons (pvl 9 n_law__need) (pa_cons (pvl 12 n_law__cell) pa_nil))) (hdb := n_law__law_brought_to.d)) pa_nil)))) (pg_name (i := 14) sc_law.nd rfl (Or.inl n_law__laying.l)) (pss_cons (ps_set (i := 15) sc_law.nd rfl (Or.inl n_law__more.l) (pe_callTy call_list_of n_law__list.g T.list pb_list (pa_cons (pvl 14 n_law__laying) pa_nil) (hn := n_law__list.n) (hdb := n_law__list.d))) (pss_cons (ps_set (i := 16) sc_law.nd rfl (Or.inl n_law__at.l) (pe_op op_mod (pvl 12 n_law__cell) (pvl 2 n_law__many))) (pss_cons (ps_asg (pe_op op_add (pe_ix ix_list (pvl 15 n_law__more) (pvl 16 n_law__at) (fun _ _ => rfl)) (pe_op op_mod (pe_op op_fdiv (pvl 12 n_law__cell) pe_int) (pe_op op_pow pe_int pe_int))) (pg_sub (pvl 15 n_law__more) (pvl 16 n_law__at) set_list)) (pss_one (ps_if (pt_cmpR op_lt (pe_callB (call_min2 rfl) n_law__min.g T.min pb_min (pa_cons (pe_ix ix_list (pe_call G_law_load (hr.mono (by decide)) n_law__law_load.g D_law_load.m D_law_load.F.kp D_law_load.b .nil (passQ hq) (pa_cons (pvl 4 n_law__tolls) (pa_cons (pvl 6 n_law__order) (pa_cons (pvl 14 n_law__laying) pa_nil))) (hdb := n_law__law_load.d)) (pvc 5 n_law__r) (fun _ _ => rfl)) (pa_cons (pe_ix ix_list (pe_call G_law_load (hr.mono (by decide)) n_law__law_load.g D_law_load.m D_law_load.F.kp D_law_load.b .nil (passQ hq) (pa_cons (pvl 4 n_law__tolls) (pa_cons (pvl 6 n_law__order) (pa_cons (pvl 15 n_law__more) pa_nil))) (hdb := n_law__law_load.d)) (pvc 5 n_law__r) (fun _ _ => rfl)) pa_nil)) (hn := n_law__min.n) (hdb := n_law__min.d)) (pvc 7 n_law__wanted) (nomark _)) (pss_one (ps_ret pe_bl)) pss_nil)))))) (pss_one (ps_for PassesOwn.never rfl (pi_list (pe_lst (pa_cons (pvl 13 n_law__near) (pa_cons (pe_call G_law_fewer (hr.mono (by decide)) n_law__law_fewer.g D_law_fewer.m D_law_fewer.F.kp D_law_fewer.b .nil (passQ hq) (pa_cons (pvl 13 n_law__near) (pa_cons (pvl 12 n_law__cell) pa_nil)) (hdb := n_law__law_fewer.d)) (pa_cons (pe_call G_law_fewer (hr.mono (by decide)) n_law__law_fewer.g D_law_fewer.m D_law_fewer.F.kp D_law_fewer.b .nil (passQ hq) (pa_cons (pe_call G_law_parted (hr.mono (by decide)) n_law__law_parted.g D_law_parted.m D_law_parted.F.kp D_law_parted.b .nil (passQ hq) (pa_cons (pvl 9 n_law__need) (pa_cons (pvl 2 n_law__many) (pa_cons (pvl 12 n_law__cell) pa_nil))) (hdb := n_law__law_parted.d)) (pa_cons (pvl 12 n_law__cell) pa_nil)) (hdb := n_law__law_fewer.d)) pa_nil))))) (pg_name (i := 14) sc_law.nd rfl (Or.inl n_law__laying.l)) (pss_one (ps_if (pt_cmpR op_lt (pe_ix ix_list (pe_call G_law_load (hr.mono (by decide)) n_law__law_load.g D_law_load.m D_law_load.F.kp D_law_load.b .nil (passQ hq) (pa_cons (pvl 4 n_law__tolls) (pa_cons (pvl 6 n_law__order) (pa_cons (pvl 14 n_law__laying) pa_nil))) (hdb := n_law__law_load.d)) (pvc 5 n_law__r) (fun _ _ => rfl)) (pvc 7 n_law__wanted) (nomark _)) (pss_cons (ps_if (PW.pt (pw_or (pt_cmpR op_ge (pe_callB (call_sum rfl) n_law__sum.g T.sum pb_sum (pa_cons (pvl 14 n_law__laying) pa_nil) (hn := n_law__sum.n) (hdb := n_law__sum.d)) (pvl 9 n_law__need) (nomark _)) (pw_or1 (pt_cmpR op_gt (pe_call G_weighed (hr.mono (by decide)) n_law__weighed.g D_weighed.m D_weighed.F.kp D_weighed.b .nil (passQ hq) (pa_cons (pe_ix ix_list (pvl 10 n_law__scales) pe_int (fun _ _ => rfl)) (pa_cons (pe_callTy call_list_of n_law__list.g T.list pb_list (pa_cons (pvl 14 n_law__laying) pa_nil) (hn := n_law__list.n) (hdb := n_law__list.d)) pa_nil)) (hdb := n_law__weighed.d)) (pe_ix ix_list (pvl 11 n_law__bounds) pe_int (fun _ _ => rfl)) (nomark _))))) (pss_one (ps_ret pe_bl)) pss_nil) (pss_one (ps_if (pt_cmpR op_gt (pe_call G_weighed (hr.mono (by decide)) n_law__weighed.g D_weighed.m D_weighed.F.kp D_weighed.b .nil (passQ hq) (pa_cons (pe_callTy call_list_of n_law__list.g T.list pb_list (pa_cons (pe_ix ix_list (pvl 10 n_law__scales) pe_int (fun _ _ => rfl)) pa_nil) (hn := n_law__list.n) (hdb := n_law__list.d)) (pa_cons (pvl 14 n_law__laying) pa_nil)) (hdb := n_law__weighed.d)) (pe_ix ix_list (pvl 11 n_law__bounds) pe_int (fun _ _ => rfl)) (nomark _)) (pss_one (ps_ret pe_bl)) pss_nil))) pss_nil))))))) (pss_one (ps_ret pe_bl))))))))))))), ?_⟩
    rw [show L2.start ["script", "numbers", "many", "roads", "tolls", "r", "order", "wanted", "web", "need", "scales", "bounds", "cell", "near", "laying", "more", "at"] [V.ref a] = [some (V.ref a), none, none, none, none, none, none, none, none, none, none, none, none, none, none, none, none] from rfl]
    unfold tSl tPart
    refine cutS fun N1 h1 => ?_
    walk_at "rd"
    refine ⟨a, ns, 60, rfl, ha, by decide, by decide, fun ln nu H1 n1 s1 en nul => h1 _ _ (cutS fun N2 h2 => ?_)⟩
    walk_at "rd"
    refine ⟨ln, nu, rfl, en, by omega, by omega, fun t l m ps rs H2 nt nl s2 et el ro g => ?_⟩
    have m1 := g.m1
    have m24 := g.m24
    have s12 := s1.trans s2
    refine ⟨t, rfl, _, SqT.of et, rfl, _, _, rfl, _, _, rfl, rfl, h2 _ _ (cutS fun N3 h3 => ?_)⟩
    walk_at "rd"
    refine ⟨l, ps, m, rs, rfl, el, ro, g, fun d H3 nd s3 ta => h3 _ _ (cutS fun N4 h4 => ?_)⟩
    have s23 := s2.trans s3
    have s13 := s12.trans s3
    walk_at "rd"
    refine ixL (s23 _ _ en) (atG (by decide) (by omega)) ⟨_, rfl, by omega, ?_⟩
    have r0 := Int.emod_nonneg (nu.getD (25 : Int).toNat 0) (show m ≠ 0 by omega)
    have r1 := Int.emod_lt_of_pos (nu.getD (25 : Int).toNat 0) (show 0 < m by omega)
    generalize nu.getD (25 : Int).toNat 0 % m = r at r0 r1 ⊢
    obtain ⟨par, dep, R⟩ := rooted g r0 r1
    refine h4 _ _ (cutS fun N5 h5 => ?_)
    walk_at "rd"
    refine ⟨d, rs, m, r, rfl, ta, g, ⟨r0, r1⟩, par, dep, R, fun lo qs tl H4 no s4 eo pa O => h5 _ _ (cutS fun N6 h6 => ?_)⟩
    have s14 := s13.trans s4
    have ta4 := ta.same s4
    have tl1 := O.perm_len r0 r1
    have el4 := (s3.trans s4) _ _ el
    have ro4 := RoadsAt.same (s3.trans s4) ro
    have en4 := (s23.trans s4) _ _ en
    clear h1 h2 h3 h4 h5 s12 s13 s23 s2 s3 s4 s1 en et el ro
    walk_at "rd"
    refine ⟨a, ns, 2, rfl, Same.seq s14 ha, by decide, fun cc => ⟨cc, rfl, fun w H5 s5 w1 w2 => h6 _ _ (cutS fun N7 h7 => ?_)⟩⟩
    have s15 := s14.trans s5
    have ta5 := ta4.same s5
    have eo5 := s5 _ _ eo
    have pa5 := PrsAt.same s5 pa
    have el5 := s5 _ _ el4
    have ro5 := RoadsAt.same s5 ro4
    have en5 := s5 _ _ en4
    clear h6 s14 s5 ta4 eo pa el4 ro4 ta en4
    walk_at "rd"
    refine ⟨_, .inl (SqL.of el5), fun q nq => ?_⟩
    have s8 := Same.new (.lst (ps.map V.ref)) nq
    refine mk_web T (c := true) (SqL.of upd_same) (RoadsAt.same s8 ro5) g fun x tw H8 hx htw s9 W => h7 _ _ (cutS fun N8 h8 => ?_)
    have s79 := s8.trans s9
    have s18 := s15.trans s79
    have ta8 := ta5.same s79
    have eo8 := s79 _ _ eo5
    have pa8 := PrsAt.same s79 pa5
    have en8 := s79 _ _ en5
    clear h7 s15 s8 s9 s79 ta5 eo5 pa5 el5 ro5 en5 nq hx htw
    walk_at "rd"
    refine ⟨x, tw, m, ps, rs, r, w, rfl, W, w2, by omega, fun _ _ _ => ⟨par, dep, R, fun H9 s9 => h8 _ _ (cutS fun N9 h9 => ?_)⟩, fun z => absurd ⟨r0, r1⟩ z, fun _ _ z => absurd z (by omega)⟩
    have s19 := s18.trans s9
    have ta9 := ta8.same s9
    have eo9 := s9 _ _ eo8
    have pa9 := PrsAt.same s9 pa8
    have en9 := s9 _ _ en8
    have W9 := W.same s9
    clear h8 s18 s9 ta8 eo8 pa8 en8 W
    walk_at "rd"
    refine ⟨d, lo, ln, qs, rs, nu, tl, m, r, par, dep, rfl, ta9, g, R, eo9, pa9, O, tl1, en9, by omega, ⟨r0, r1⟩, fun lk ws H10 nk s10 ek sk kb => ?_⟩
    refine ⟨x, tw, m, ps, rs, r, rfl, W9.same s10, fun _ _ => ⟨par, dep, R, fun lw H11 nw s11 ew => ⟨smallE (by simp), fun p np => h9 _ _ (cutS fun N10 h10 => ?_)⟩⟩, fun z => absurd ⟨r0, r1⟩ z⟩
    have sp := Same.new (.lst [V.ref lk, V.ref lw]) np
    have s911 := s10.trans (s11.trans sp)
    have ek11 := (s11.trans sp) _ _ ek
    have ew11 := sp _ _ ew
    have ep : upd H11 p (.lst [V.ref lk, V.ref lw]) p = some (.lst [V.ref lk, V.ref lw]) := upd_same
    generalize upd H11 p (.lst [V.ref lk, V.ref lw]) = H12 at s911 ek11 ew11 ep ⊢
    have s112 := s19.trans s911
    have ta12 := ta9.same s911
    have eo12 := s911 _ _ eo9
    have pa12 := PrsAt.same s911 pa9
    have W12 := W9.same s911
    clear h9 s19 s10 s11 sp s911 ta9 eo9 pa9 W9 en9 ek ew np
    walk_at "rd"
    have wb : (w - 1).natAbs < 2 ^ 4000 := want_bits w1 w2
    have wl : (wgtL m rs r par dep).length = m.toNat := foL_len
    have kl := sk.len
    refine ⟨⟨_, SqL.of ep⟩, fun pc npc => ?_⟩
    refine comp_any (K := K) (c := true) (a := p) (xs := [V.ref lk, V.ref lw]) (fun i ys σ H' => Same H12 H' ∧ H' pc = some (.lst ys) ∧ ys = (([bnd m rs r par ws w, bnd m rs r par (wgtL m rs r par dep) w] : List Int).take i).map V.int ∧ ∃ v, σ = [v, some (V.ref x), some (V.int r), some (V.int w)]) ⟨Same.new _ npc, upd_same, rfl, _, rfl⟩ (fun i ys σ H' _ ⟨z, _⟩ => SqL.of (z _ _ ep)) ?_ ?_
    · rintro i y ys σ H' N hN hi ⟨s', e', rfl, v, rfl⟩
      have one : ∀ (b : Addr) (zs : List Int), H12 b = some (.lst (zs.map V.int)) → (zs.length : Int) = m → (∀ z ∈ zs, z.natAbs < 2 ^ 4000) → (∀ H'', Same H' H'' → N (((([bnd m rs r par ws w, bnd m rs r par (wgtL m rs r par dep) w] : List Int).take i).map V.int) ++ [V.int (bnd m rs r par zs w)]) [some (V.ref b), some (V.ref x), some (V.int r), some (V.int w)] (upd H'' pc (.lst (((([bnd m rs r par ws w, bnd m rs r par (wgtL m rs r par dep) w] : List Int).take i).map V.int) ++ [V.int (bnd m rs r par zs w)])))) → i < 2 → tCall (sp_bound_by T) [] E0 (tCons (tVar 1) (tCons (tVar 2) (tCons (tVar 3) (tCons (tCB (fun xs H Q => ∃ p, xs = [V.ref p] ∧ ∃ x, (SqL K H p x ∨ SqT K H p x) ∧ ∀ (l : Addr), H l = none → Q (V.ref l) (upd H l (HO.lst x))) (tCons (tVar 0) tNil)) tNil)))) [some (V.ref b), some (V.ref x), some (V.int r), some (V.int w)] H' fun y H4 => H4 pc = some (.lst (((([bnd m rs r par ws w, bnd m rs r par (wgtL m rs r par dep) w] : List Int).take i).map V.int))) ∧ (((([bnd m rs r par ws w, bnd m rs r par (wgtL m rs r par dep) w] : List Int).take i).map V.int)).length < sizeLine ∧ N (((([bnd m rs r par ws w, bnd m rs r par (wgtL m rs r par dep) w] : List Int).take i).map V.int) ++ [y]) [some (V.ref b), some (V.ref x), some (V.int r), some (V.int w)] (upd H4 pc (.lst (((([bnd m rs r par ws w, bnd m rs r par (wgtL m rs r par dep) w] : List Int).take i).map V.int) ++ [y]))) := by
        intro b zs eb zl zb q i2
        walk_at "rd"
        refine ⟨_, .inl (SqL.of (s' _ _ eb)), fun lb nb => ?_⟩
        have sb := Same.new (.lst (zs.map V.int)) nb
        refine ⟨x, lb, tw, true, m, ps, rs, zs, r, w, rfl, W12.same (s'.trans sb), SqL.of upd_same, zl, zb, wb, fun _ _ _ => ⟨par, dep, R, fun H'' s'' => ⟨(sb.trans s'') _ _ e', small (by rw [List.length_map, List.length_take]; omega), q _ (sb.trans s'')⟩⟩, fun z => absurd ⟨r0, r1⟩ z, fun _ _ z => absurd z (by omega)⟩
      match i, hi with
      | 0, hi =>
        cases (show V.ref lk = y by simpa using hi)
        exact one lk ws ek11 kl kb (fun H'' s'' => hN _ _ _ ⟨(s'.trans s'').put npc _, upd_same, rfl, _, rfl⟩) (by decide)
      | 1, hi =>
        cases (show V.ref lw = y by simpa using hi)
        exact one lw _ ew11 (by omega) (wgtL_bits g R) (fun H'' s'' => hN _ _ _ ⟨(s'.trans s'').put npc _, upd_same, rfl, _, rfl⟩) (by decide)
    · rintro ys σ H13 ⟨s13, e13, rfl, v, rfl⟩
      refine h10 _ _ (cutS fun N11 h11 => ?_)
      have e13 : H13 pc = some (.lst [V.int (bnd m rs r par ws w), V.int (bnd m rs r par (wgtL m rs r par dep) w)]) := e13
      have s113 := s112.trans s13
      have ta13 := ta12.same s13
      have eo13 := s13 _ _ eo12
      have pa13 := PrsAt.same s13 pa12
      have W13 := W12.same s13
      have ek13 := s13 _ _ ek11
      have ew13 := s13 _ _ ew11
      have ep13 := s13 _ _ ep
      clear h10 s112 s13 ta12 eo12 pa12 W12 ek11 ew11 ep npc
      walk_at "rd"
      refine ⟨smallE (by simp), fun p0 np0 => ?_⟩
      have u0 := Same.new (.lst [V.int 0]) np0
      refine ⟨a, _, rfl, Same.seq (s113.trans u0) ha, fun p2 np2 => ?_⟩
      rw [cut_ints]
      have u2 := Same.new (.lst ((cutI ns (some 3) (some 63)).map V.int)) np2
      have cl : (cutI ns (some 3) (some 63)).length ≤ 63 := Nat.le_trans (cutI_len _ _ _) hn
      refine ⟨p0, p2, _, _, rfl, rfl, u2 _ _ upd_same, upd_same, smallE (by simp; omega), fun lc nlc => ⟨lc, rfl, ⟨_, SqL.of upd_same⟩, ?_⟩⟩
      have u3 := u0.trans (u2.trans (Same.new (.lst ([V.int 0] ++ (cutI ns (some 3) (some 63)).map V.int)) nlc))
      have ec : upd (upd (upd H13 p0 (.lst [V.int 0])) p2 (.lst ((cutI ns (some 3) (some 63)).map V.int))) lc (.lst ([V.int 0] ++ (cutI ns (some 3) (some 63)).map V.int)) lc = some (.lst (((0 : Int) :: cutI ns (some 3) (some 63)).map V.int)) := upd_same
      generalize upd (upd (upd H13 p0 (.lst [V.int 0])) p2 (.lst ((cutI ns (some 3) (some 63)).map V.int))) lc (.lst ([V.int 0] ++ (cutI ns (some 3) (some 63)).map V.int)) = H14 at u3 ec ⊢
      generalize (0 : Int) :: cutI ns (some 3) (some 63) = cs at ec ⊢
      have ta14 := ta13.same u3
      have eo14 := u3 _ _ eo13
      have pa14 := PrsAt.same u3 pa13
      have ek14 := u3 _ _ ek13
      have ew14 := u3 _ _ ew13
      have ep14 := u3 _ _ ep13
      have eb14 := u3 _ _ e13
      clear u0 u2 u3 np0 np2 nlc cl ta13 eo13 pa13 W13 ek13 ew13 ep13 e13 s113
      -- what the law asks of layings, said once
      obtain ⟨tp, etp, Op⟩ := preL_full g R r0 r1
      obtain ⟨bnd0, bndB⟩ := bnd_cap g R r0 r1 w1 w2
      have big : ∀ (ys : List Int), (ys.length : Int) = m → (∀ y ∈ ys, 0 ≤ y) → bnd m rs r par (wgtL m rs r par dep) w < ys.sum → w ≤ gat m rs r par dep (fun v => ys.getD v.toNat 0) (giv rs par) r := fun ys yl y0 h => by
        refine enough_all g R r0 r1 etp Op (fun v => getD_nn y0 _) ?_
        rw [below_sum (by omega)]
        exact h
      have lack : ∀ (ys zs : List Int), (ys.length : Int) = m → (∀ y ∈ ys, 0 ≤ y) → Slk m rs par tl zs → gat m rs r par dep (fun v => ys.getD v.toNat 0) (giv rs par) r < w → ((List.range zs.length).map fun i => zs.getD i 0 * ys.getD i 0).sum ≤ bnd m rs r par zs w := fun ys zs yl y0 S h => by
        have := wle_all (held := fun v => ys.getD v.toNat 0) g R r0 r1 etp Op (Slk.swap O Op S) (fun v => getD_nn y0 _) h
        rw [below_dot] at this
        rw [show zs.length = m.toNat by have := S.len; omega]
        exact this
      have load : ∀ (lb : Addr) (ys : List Int) (H' : Hp) (R' : VK), Same H14 H' → H' lb = some (.lst (ys.map V.int)) → (ys.length : Int) = m → (∀ H'', Same H' H'' → R' (V.int (gat m rs r par dep (fun v => ys.getD v.toNat 0) (giv rs par) r)) H'') → sp_law_load T [V.ref d, V.ref lo, V.ref lb] H' (fun x H1 => rIxL K x (V.int r) H1 R') E0 := by
        intro lb ys H' R' s' eb yl q
        refine ⟨d, lo, lb, true, qs, rs, tl, ys, m, r, par, dep, rfl, ta14.same s', g, R, s' _ _ eo14, PrsAt.same s' pa14, O, SqL.of eb, yl, fun lg H'' ng s'' eg => ?_⟩
        refine ixL eg (v := V.int (gat m rs r par dep (fun v => ys.getD v.toNat 0) (giv rs par) r)) ?_ (q _ s'')
        rw [← gatL_get (m := m) (rs := rs) (r := r) (par := par) (dep := dep) (held := fun v => ys.getD v.toNat 0) (con := giv rs par) r0 r1]
        exact atG r0 (by unfold gatL; rw [List.length_map, below_length]; omega)
      refine for_listH (K := K) (xs := cs.map V.int) (fun i σ H15 => Same H14 H15 ∧ ∃ (v12 v13 v14 v15 v16 : Option V), σ = [some (V.ref a), some (V.ref ln), some (V.int m), some (V.ref l), some (V.ref d), some (V.int r), some (V.ref lo), some (V.int w), some (V.ref x), some (V.int (bnd m rs r par (wgtL m rs r par dep) w + 1)), some (V.ref p), some (V.ref pc), v12, v13, v14, v15, v16]) ⟨Same.refl _, _, _, _, _, _, rfl⟩ (fun i σ H15 _ z => SqL.of (z.1 _ _ ec)) ?_ ?_
      · rintro i y σ H15 N BB hBB hN hy ⟨s15, v12, v13, v14, v15, v16, rfl⟩
        obtain ⟨c, hc, rfl⟩ := List.getElem?_map_some hy
        refine hBB _ _ (cutS fun M1 k1 => ?_)
        walk_at "rd"
        refine ⟨⟨by decide, by decide⟩, d, lo, qs, rs, tl, m, r, w, _, par, dep, rfl, ta14.same s15, g, R, s15 _ _ eo14, PrsAt.same s15 pa14, O, tl1, ⟨r0, r1⟩, w1, w2, fun tq la ld xs ys H16 na s16 et ea xl x0 => ixT et rfl (k1 _ _ (cutS fun M2 k2 => ?_))⟩
        have s1416 := s15.trans s16
        clear k1 et s15 s16 na
        have p720 : (2 : Int) ^ 720 ≤ 2 ^ 3000 := by decide +kernel
        have xn : ∀ y ∈ xs, 0 ≤ y := fun y hy => (x0 y hy).1
        walk_at "rd"
        refine ⟨_, m, c, rfl, by omega, by omega, m1, m24, fun l1 zs H17 n17 s17 e17 zl z0 zsm => ?_⟩
        have ea17 := s17 _ _ ea
        refine ⟨la, xs, _, c, rfl, ea17, by omega, by omega, xn, fun l2 ws2 H18 n18 s18 e18 wl2 w0 wsm => ⟨smallE (by simp), fun p1 np1 => ?_⟩⟩
        have u1 := Same.new (.lst [V.ref l1, V.ref l2]) np1
        have e19 : upd H18 p1 (.lst [V.ref l1, V.ref l2]) p1 = some (.lst [V.ref l1, V.ref l2]) := upd_same
        have el1 := (s18.trans u1) _ _ e17
        have el2 := u1 _ _ e18
        have s1419 := s1416.trans (s17.trans (s18.trans u1))
        have ea19 := (s17.trans (s18.trans u1)) _ _ ea
        generalize upd H18 p1 (.lst [V.ref l1, V.ref l2]) = H19 at e19 el1 el2 s1419 ea19 ⊢
        have both : ∀ y ∈ [V.ref l1, V.ref l2], ∃ (lb : Addr) (ys : List Int), y = V.ref lb ∧ H19 lb = some (.lst (ys.map V.int)) ∧ (ys.length : Int) = m ∧ (∀ y ∈ ys, 0 ≤ y) ∧ bnd m rs r par (wgtL m rs r par dep) w < ys.sum := by
          intro y hy
          simp only [List.mem_cons, List.not_mem_nil, or_false] at hy
          rcases hy with rfl | rfl
          · exact ⟨l1, zs, rfl, el1, zl, fun y hy => (z0 y hy).1, by omega⟩
          · exact ⟨l2, ws2, rfl, el2, by omega, w0, by omega⟩
        generalize [V.ref l1, V.ref l2] = two at e19 both ⊢
        clear s17 s18 u1 np1 n17 n18 e17 e18 ea17 z0 zsm w0 wsm zl wl2 el1 el2 s1416 ea
        refine ⟨⟨_, SqL.of e19⟩, ?_⟩
        refine for_listH (K := K) (xs := two) (fun j σ H20 => Same H19 H20 ∧ ∃ (v14 v15 v16 : Option V), σ = [some (V.ref a), some (V.ref ln), some (V.int m), some (V.ref l), some (V.ref d), some (V.int r), some (V.ref lo), some (V.int w), some (V.ref x), some (V.int (bnd m rs r par (wgtL m rs r par dep) w + 1)), some (V.ref p), some (V.ref pc), some (V.int c), some (V.ref la), v14, v15, v16]) ⟨Same.refl _, _, _, _, rfl⟩ (fun j σ H20 _ z => SqL.of (z.1 _ _ e19)) ?_ ?_
        · rintro j y σ H20 N' CC hCC hN' hj ⟨s20, v14, v15, v16, rfl⟩
          obtain ⟨lb, ys, rfl, eb, yl, y0, ysm⟩ := both _ (List.mem_of_getElem? hj)
          have eb20 := s20 _ _ eb
          have s1420 := s1419.trans s20
          refine hCC _ _ ?_
          walk_at "rd"
          refine ⟨_, .inl (SqL.of eb20), fun lm nlm => ⟨by omega, ?_⟩⟩
          have u2 := Same.new (.lst (ys.map V.int)) nlm
          have e21 : upd H20 lm (.lst (ys.map V.int)) lm = some (.lst (ys.map V.int)) := upd_same
          have eb21 := u2 _ _ eb20
          have s1421 := s1420.trans u2
          have n14 := s1420.free nlm
          have nlb : lb ≠ lm := ne_of_none eb20 nlm
          have s1921 := s20.trans u2
          have n19 := s20.free nlm
          generalize upd H20 lm (.lst (ys.map V.int)) = H21 at e21 eb21 s1421 s1921 ⊢
          have a0 := Int.emod_nonneg c (show m ≠ 0 by omega)
          have a1 := Int.emod_lt_of_pos c (show 0 < m by omega)
          generalize c % m = at_ at a0 a1 ⊢
          have P20 : (0 : Int) < 10 ^ Int.toNat 20 := Int.pow_pos (by decide)
          refine ixL e21 (atG a0 (by omega)) ⟨⟨by decide, by decide⟩, ⟨by decide, by decide, by decide⟩, P20, _, rfl, setR e21 a0 (by rw [List.length_map]; omega) ?_⟩
          have d0 := Int.emod_nonneg (c / 8) (Int.ne_of_gt P20)
          generalize c / 8 % 10 ^ Int.toNat 20 = D at d0 ⊢
          have yn := getD_nn y0 at_.toNat
          have m0 : ∀ y ∈ ys.set at_.toNat (ys.getD at_.toNat 0 + D), 0 ≤ y := set_nn y0 (by omega)
          have ml : ((ys.set at_.toNat (ys.getD at_.toNat 0 + D)).length : Int) = m := by rw [List.length_set]; exact yl
          have ms : bnd m rs r par (wgtL m rs r par dep) w < (ys.set at_.toNat (ys.getD at_.toNat 0 + D)).sum := by rw [sum_set _ _ _ (by omega)]; omega
          have e22 : upd H21 lm (.lst ((ys.map V.int).set at_.toNat (V.int (ys.getD at_.toNat 0 + D)))) lm = some (.lst ((ys.set at_.toNat (ys.getD at_.toNat 0 + D)).map V.int)) := by rw [upd_same, ← List.map_set]
          have eb22 : upd H21 lm (.lst ((ys.map V.int).set at_.toNat (V.int (ys.getD at_.toNat 0 + D)))) lb = some (.lst (ys.map V.int)) := by rw [upd_ne nlb]; exact eb21
          have s1422 := s1421.put n14 (.lst ((ys.map V.int).set at_.toNat (V.int (ys.getD at_.toNat 0 + D))))
          have s1922 := s1921.put n19 (.lst ((ys.map V.int).set at_.toNat (V.int (ys.getD at_.toNat 0 + D))))
          generalize upd H21 lm (.lst ((ys.map V.int).set at_.toNat (V.int (ys.getD at_.toNat 0 + D)))) = H22 at e22 eb22 s1422 s1922 ⊢
          refine load lb ys H22 _ s1422 eb22 yl fun H23 s23 => load lm _ H23 _ (s1422.trans s23) (s23 _ _ e22) ml fun H24 s24 => ⟨_, _, ⟨rfl, rfl⟩, ?_⟩
          have b1 := big ys yl y0 ysm
          have b2 := big _ ml m0 ms
          rw [if_neg (by split <;> omega)]
          exact hN' _ _ ⟨s1922.trans (s23.trans s24), _, _, _, rfl⟩
        · rintro CC σ H20 hCC ⟨s20, v14, v15, v16, rfl⟩
          refine hCC _ _ (k2 _ _ ?_)
          have s1420 := s1419.trans s20
          have ea20 := s20 _ _ ea19
          clear k2 both e19 s1419 ea19 s20
          walk_at "rd"
          refine ⟨la, xs, c, 2 ^ 720, rfl, ea20, by omega, by omega, x0, p720, fun l1 zs H21 n21 s21 e21 zl z0 => ?_⟩
          refine ⟨_, m, c, rfl, by omega, by omega, m1, m24, fun l2 us H22 n22 s22 e22 ul u0 _ => ?_⟩
          refine ⟨l2, us, c, 2 ^ 720, rfl, e22, by omega, by omega, (fun u hu => ⟨(u0 u hu).1, by have := (u0 u hu).2; omega⟩), p720, fun l3 ts H23 n23 s23 e23 tl3 t0 => ⟨smallE (by simp), fun p1 np1 => ?_⟩⟩
          have u1 := Same.new (.lst [V.ref la, V.ref l1, V.ref l3]) np1
          have e24 : upd H23 p1 (.lst [V.ref la, V.ref l1, V.ref l3]) p1 = some (.lst [V.ref la, V.ref l1, V.ref l3]) := upd_same
          have f1 := (s21.trans (s22.trans (s23.trans u1))) _ _ ea20
          have f2 := (s22.trans (s23.trans u1)) _ _ e21
          have f3 := u1 _ _ e23
          have s1424 := s1420.trans (s21.trans (s22.trans (s23.trans u1)))
          generalize upd H23 p1 (.lst [V.ref la, V.ref l1, V.ref l3]) = H24 at e24 f1 f2 f3 s1424 ⊢
          have thr : ∀ y ∈ [V.ref la, V.ref l1, V.ref l3], ∃ (lb : Addr) (ys : List Int), y = V.ref lb ∧ H24 lb = some (.lst (ys.map V.int)) ∧ (ys.length : Int) = m ∧ (∀ y ∈ ys, 0 ≤ y ∧ y < 2 ^ 720) := by
            intro y hy
            simp only [List.mem_cons, List.not_mem_nil, or_false] at hy
            rcases hy with rfl | rfl | rfl
            · exact ⟨la, xs, rfl, f1, xl, x0⟩
            · exact ⟨l1, zs, rfl, f2, by omega, z0⟩
            · exact ⟨l3, ts, rfl, f3, by omega, t0⟩
          generalize [V.ref la, V.ref l1, V.ref l3] = three at e24 thr ⊢
          clear s21 s22 s23 u1 np1 n21 n22 n23 e21 e22 e23 f1 f2 f3 z0 u0 t0 zl ul tl3 s1420 ea20
          refine ⟨⟨_, SqL.of e24⟩, ?_⟩
          refine for_listH (K := K) (xs := three) (fun j σ H25 => Same H24 H25 ∧ ∃ (v14 v15 v16 : Option V), σ = [some (V.ref a), some (V.ref ln), some (V.int m), some (V.ref l), some (V.ref d), some (V.int r), some (V.ref lo), some (V.int w), some (V.ref x), some (V.int (bnd m rs r par (wgtL m rs r par dep) w + 1)), some (V.ref p), some (V.ref pc), some (V.int c), some (V.ref la), v14, v15, v16]) ⟨Same.refl _, _, _, _, rfl⟩ (fun j σ H25 _ z => SqL.of (z.1 _ _ e24)) ?_ ?_
          · rintro j y σ H25 N' CC hCC hN' hj ⟨s25, v14, v15, v16, rfl⟩
            obtain ⟨lb, ys, rfl, eb, yl, y0⟩ := thr _ (List.mem_of_getElem? hj)
            have eb25 := s25 _ _ eb
            have s1425 := s1424.trans s25
            have yn : ∀ y ∈ ys, 0 ≤ y := fun y hy => (y0 y hy).1
            have yb : ∀ y ∈ ys, y.natAbs < 2 ^ 4000 := fun y hy => by
              have h1 := y0 y hy
              have h2 : y.natAbs < 2 ^ 720 := by
                have h3 := h1.2
                rw [show (2 : Int) ^ 720 = ((2 ^ 720 : Nat) : Int) from (Int.natCast_pow 2 720).symm] at h3
                omega
              exact Nat.lt_trans h2 (Nat.pow_lt_pow_right (by decide) (by decide))
            refine hCC _ _ ?_
            walk_at "rd"
            refine load lb ys H25 _ s1425 eb25 yl fun H26 s26 => ⟨_, rfl, ?_⟩
            by_cases cw : gat m rs r par dep (fun v => ys.getD v.toNat 0) (giv rs par) r < w
            · rw [if_pos cw]
              have g1 := lack ys ws yl yn sk cw
              have g2 := lack ys (wgtL m rs r par dep) yl yn (wgt_slk g R O) cw
              have g3 : ys.sum ≤ bnd m rs r par (wgtL m rs r par dep) w := Int.not_lt.mp fun z => by
                have := big ys yl yn z
                omega
              have s1426 := s1425.trans s26
              have eb26 := s26 _ _ eb25
              refine ⟨ys, .inl (SqL.of eb26), ?_⟩
              rw [if_neg (by omega)]
              refine ixL (s1426 _ _ ep14) rfl ⟨_, .inl (SqL.of eb26), fun l4 nl4 => ?_⟩
              have u4 := Same.new (.lst (ys.map V.int)) nl4
              refine ⟨lk, l4, ws, ys, rfl, (s1426.trans u4) _ _ ek14, upd_same, by omega, by omega, kb, yb, fun H27 s27 => ?_⟩
              have s1427 := s1426.trans (u4.trans s27)
              refine ixL (s1427 _ _ eb14) rfl ⟨_, rfl, _, rfl, ?_⟩
              rw [if_neg (by omega)]
              refine ixL (s1427 _ _ ep14) rfl ⟨lw, rfl, _, .inl (SqL.of (s1427 _ _ ew14)), fun l5 nl5 => ?_⟩
              have u5 := Same.new (.lst ((wgtL m rs r par dep).map V.int)) nl5
              refine ⟨l5, lb, wgtL m rs r par dep, ys, rfl, upd_same, ((u4.trans s27).trans u5) _ _ eb26, by omega, by omega, wgtL_bits g R, yb, fun H28 s28 => ?_⟩
              refine ixL ((s1427.trans (u5.trans s28)) _ _ eb14) rfl ⟨_, rfl, _, rfl, ?_⟩
              rw [if_neg (by omega)]
              exact hN' _ _ ⟨s25.trans (s26.trans ((u4.trans s27).trans (u5.trans s28))), _, _, _, rfl⟩
            · rw [if_neg cw]
              exact hN' _ _ ⟨s25.trans s26, _, _, _, rfl⟩
          · rintro CC σ H25 hCC ⟨s25, v14, v15, v16, rfl⟩
            refine hCC _ _ ?_
            exact hN _ _ ⟨s1424.trans s25, _, _, _, _, _, rfl⟩
      · rintro BB σ H15 hBB ⟨s15, v12, v13, v14, v15, v16, rfl⟩
        refine hBB _ _ (h11 _ _ ?_)
        walk_at "rd"
        exact k _
end
theorem quiet0 : Quiet CX0 := fun _ _ _ _ _ h => h
theorem all_mk {l : PySem.W.OpenLaw} {w : World} {K : PySem.W.Frag} {h : Heap} {mg : Str → Option Value} {fa : Addr} {C_BadWeb : Addr} {C_NoPlace : Addr} {C_NoRoad : Addr} {C_BadWish : Addr} {C_Web : Addr} {xc_NoPlace : Value} {xd_NoPlace : Option Addr} {xk_NoPlace : ClassData} {xs_NoPlace : Array (Option Value)} {qn_NoPlace qq_NoPlace : Str} {qN_NoPlace : Addr} {qb_NoPlace qm_NoPlace : List Value} {qh_NoPlace : Bool} {qs_NoPlace : List Str} {qu_NoPlace : List Value} {qa_NoPlace : Bool} {qc_NoPlace : Option Bool} {qd_NoPlace : Option Addr} {q0_NoPlace q1_NoPlace q2_NoPlace q3_NoPlace q5_NoPlace : Option Value} {xc_NoRoad : Value} {xd_NoRoad : Option Addr} {xk_NoRoad : ClassData} {xs_NoRoad : Array (Option Value)} {qn_NoRoad qq_NoRoad : Str} {qN_NoRoad : Addr} {qb_NoRoad qm_NoRoad : List Value} {qh_NoRoad : Bool} {qs_NoRoad : List Str} {qu_NoRoad : List Value} {qa_NoRoad : Bool} {qc_NoRoad : Option Bool} {qd_NoRoad : Option Addr} {q0_NoRoad q1_NoRoad q2_NoRoad q3_NoRoad q5_NoRoad : Option Value} {xc_BadWish : Value} {xd_BadWish : Option Addr} {xk_BadWish : ClassData} {xs_BadWish : Array (Option Value)} {qn_BadWish qq_BadWish : Str} {qN_BadWish : Addr} {qb_BadWish qm_BadWish : List Value} {qh_BadWish : Bool} {qs_BadWish : List Str} {qu_BadWish : List Value} {qa_BadWish : Bool} {qc_BadWish : Option Bool} {qd_BadWish : Option Addr} {q0_BadWish q1_BadWish q2_BadWish q3_BadWish q5_BadWish : Option Value} {f_check_counts : Addr} {od_check_counts an_check_counts : Option Addr} {sl_check_counts : Array (Option Value)} {oc_check_counts kV_check_counts dc_check_counts pm_check_counts cd_check_counts ct_check_counts : Value} {f_is_place : Addr} {od_is_place an_is_place : Option Addr} {sl_is_place : Array (Option Value)} {oc_is_place kV_is_place dc_is_place pm_is_place cd_is_place ct_is_place : Value} {f_check_ends : Addr} {od_check_ends an_check_ends : Option Addr} {sl_check_ends : Array (Option Value)} {oc_check_ends kV_check_ends dc_check_ends pm_check_ends cd_check_ends ct_check_ends : Value} {f_other_ends : Addr} {od_other_ends an_other_ends : Option Addr} {sl_other_ends : Array (Option Value)} {oc_other_ends kV_other_ends dc_other_ends pm_other_ends cd_other_ends ct_other_ends : Value} {f_check_joined : Addr} {od_check_joined an_check_joined : Option Addr} {sl_check_joined : Array (Option Value)} {oc_check_joined kV_check_joined dc_check_joined pm_check_joined cd_check_joined ct_check_joined : Value} {f_check_tolls : Addr} {od_check_tolls an_check_tolls : Option Addr} {sl_check_tolls : Array (Option Value)} {oc_check_tolls kV_check_tolls dc_check_tolls pm_check_tolls cd_check_tolls ct_check_tolls : Value} {f_Web___init__ : Addr} {od_Web___init__ an_Web___init__ : Option Addr} {sl_Web___init__ : Array (Option Value)} {oc_Web___init__ kV_Web___init__ dc_Web___init__ pm_Web___init__ cd_Web___init__ ct_Web___init__ : Value} {f_law_tolls : Addr} {od_law_tolls an_law_tolls : Option Addr} {sl_law_tolls : Array (Option Value)} {oc_law_tolls kV_law_tolls dc_law_tolls pm_law_tolls cd_law_tolls ct_law_tolls : Value} {f_law_brought_to : Addr} {od_law_brought_to an_law_brought_to : Option Addr} {sl_law_brought_to : Array (Option Value)} {oc_law_brought_to kV_law_brought_to dc_law_brought_to pm_law_brought_to cd_law_brought_to ct_law_brought_to : Value} {f_law_cell : Addr} {od_law_cell an_law_cell : Option Addr} {sl_law_cell : Array (Option Value)} {oc_law_cell kV_law_cell dc_law_cell pm_law_cell cd_law_cell ct_law_cell : Value} {f_law_down : Addr} {od_law_down an_law_down : Option Addr} {sl_law_down : Array (Option Value)} {oc_law_down kV_law_down dc_law_down pm_law_down cd_law_down ct_law_down : Value} {f_law_fewer : Addr} {od_law_fewer an_law_fewer : Option Addr} {sl_law_fewer : Array (Option Value)} {oc_law_fewer kV_law_fewer dc_law_fewer pm_law_fewer cd_law_fewer ct_law_fewer : Value} {f_law_load : Addr} {od_law_load an_law_load : Option Addr} {sl_law_load : Array (Option Value)} {oc_law_load kV_law_load dc_law_load pm_law_load cd_law_load ct_law_load : Value} {f_law_mixed : Addr} {od_law_mixed an_law_mixed : Option Addr} {sl_law_mixed : Array (Option Value)} {oc_law_mixed kV_law_mixed dc_law_mixed pm_law_mixed cd_law_mixed ct_law_mixed : Value} {f_law_numbers : Addr} {od_law_numbers an_law_numbers : Option Addr} {sl_law_numbers : Array (Option Value)} {oc_law_numbers kV_law_numbers dc_law_numbers pm_law_numbers cd_law_numbers ct_law_numbers : Value} {f_law_parted : Addr} {od_law_parted an_law_parted : Option Addr} {sl_law_parted : Array (Option Value)} {oc_law_parted kV_law_parted dc_law_parted pm_law_parted cd_law_parted ct_law_parted : Value} {f_law_slack : Addr} {od_law_slack an_law_slack : Option Addr} {sl_law_slack : Array (Option Value)} {oc_law_slack kV_law_slack dc_law_slack pm_law_slack cd_law_slack ct_law_slack : Value} {f_law_least : Addr} {od_law_least an_law_least : Option Addr} {sl_law_least : Array (Option Value)} {oc_law_least kV_law_least dc_law_least pm_law_least cd_law_least ct_law_least : Value} {f_law_spread : Addr} {od_law_spread an_law_spread : Option Addr} {sl_law_spread : Array (Option Value)} {oc_law_spread kV_law_spread dc_law_spread pm_law_spread cd_law_spread ct_law_spread : Value} {f_law_wanted : Addr} {od_law_wanted an_law_wanted : Option Addr} {sl_law_wanted : Array (Option Value)} {oc_law_wanted kV_law_wanted dc_law_wanted pm_law_wanted cd_law_wanted ct_law_wanted : Value} {f_law_toll : Addr} {od_law_toll an_law_toll : Option Addr} {sl_law_toll : Array (Option Value)} {oc_law_toll kV_law_toll dc_law_toll pm_law_toll cd_law_toll ct_law_toll : Value} {f_law_web : Addr} {od_law_web an_law_web : Option Addr} {sl_law_web : Array (Option Value)} {oc_law_web kV_law_web dc_law_web pm_law_web cd_law_web ct_law_web : Value} {f_check_place : Addr} {od_check_place an_check_place : Option Addr} {sl_check_place : Array (Option Value)} {oc_check_place kV_check_place dc_check_place pm_check_place cd_check_place ct_check_place : Value} {f_check_wanted : Addr} {od_check_wanted an_check_wanted : Option Addr} {sl_check_wanted : Array (Option Value)} {oc_check_wanted kV_check_wanted dc_check_wanted pm_check_wanted cd_check_wanted ct_check_wanted : Value} {f_neighbours : Addr} {od_neighbours an_neighbours : Option Addr} {sl_neighbours : Array (Option Value)} {oc_neighbours kV_neighbours dc_neighbours pm_neighbours cd_neighbours ct_neighbours : Value} {f_kids : Addr} {od_kids an_kids : Option Addr} {sl_kids : Array (Option Value)} {oc_kids kV_kids dc_kids pm_kids cd_kids ct_kids : Value} {f_ahead : Addr} {od_ahead an_ahead : Option Addr} {sl_ahead : Array (Option Value)} {oc_ahead kV_ahead dc_ahead pm_ahead cd_ahead ct_ahead : Value} {f_down : Addr} {od_down an_down : Option Addr} {sl_down : Array (Option Value)} {oc_down kV_down dc_down pm_down cd_down ct_down : Value} {f_inward : Addr} {od_inward an_inward : Option Addr} {sl_inward : Array (Option Value)} {oc_inward kV_inward dc_inward pm_inward cd_inward ct_inward : Value} {f_toll : Addr} {od_toll an_toll : Option Addr} {sl_toll : Array (Option Value)} {oc_toll kV_toll dc_toll pm_toll cd_toll ct_toll : Value} {f_bound_by : Addr} {od_bound_by an_bound_by : Option Addr} {sl_bound_by : Array (Option Value)} {oc_bound_by kV_bound_by dc_bound_by pm_bound_by cd_bound_by ct_bound_by : Value} {f_borne : Addr} {od_borne an_borne : Option Addr} {sl_borne : Array (Option Value)} {oc_borne kV_borne dc_borne pm_borne cd_borne ct_borne : Value} {f_least_weights : Addr} {od_least_weights an_least_weights : Option Addr} {sl_least_weights : Array (Option Value)} {oc_least_weights kV_least_weights dc_least_weights pm_least_weights cd_least_weights ct_least_weights : Value} {f_enough : Addr} {od_enough an_enough : Option Addr} {sl_enough : Array (Option Value)} {oc_enough kV_enough dc_enough pm_enough cd_enough ct_enough : Value} {f_weighed : Addr} {od_weighed an_weighed : Option Addr} {sl_weighed : Array (Option Value)} {oc_weighed kV_weighed dc_weighed pm_weighed cd_weighed ct_weighed : Value} {f_law : Addr} {od_law an_law : Option Addr} {sl_law : Array (Option Value)} {oc_law kV_law dc_law pm_law cd_law ct_law : Value} {t_MOST_PLACES : Tok} {t_LEAST_TOLL : Tok} {t_MOST_TOLL : Tok} (X : K.In h) (G : h.Ns mainGlobals mg) (hfa : mg "law" = some (.ref fa))
    (ac_BadWeb : PySem.W.nsIn K mainGlobals "BadWeb" = some (some (.ref C_BadWeb)))
    (ac_NoPlace : PySem.W.nsIn K mainGlobals "NoPlace" = some (some (.ref C_NoPlace)))
    (ac_NoRoad : PySem.W.nsIn K mainGlobals "NoRoad" = some (some (.ref C_NoRoad)))
    (ac_BadWish : PySem.W.nsIn K mainGlobals "BadWish" = some (some (.ref C_BadWish)))
    (ac_Web : PySem.W.nsIn K mainGlobals "Web" = some (some (.ref C_Web)))
    (xl_NoPlace : K.lookup C_NoPlace = some ⟨xc_NoPlace, xd_NoPlace, .cls xk_NoPlace, xs_NoPlace⟩)
    (xe_NoPlace : (⟨xc_NoPlace, xd_NoPlace, .cls xk_NoPlace, xs_NoPlace⟩ : Obj) = excClassObj qn_NoPlace qq_NoPlace C_NoPlace qN_NoPlace qb_NoPlace qm_NoPlace qh_NoPlace qs_NoPlace qu_NoPlace qa_NoPlace qc_NoPlace qd_NoPlace q0_NoPlace q1_NoPlace q2_NoPlace q3_NoPlace q5_NoPlace "ValueError.__new__")
    (xf_NoPlace : PySem.W.nsOkIn K qN_NoPlace = true)
    (xj_NoPlace : PySem.W.nsIn K qN_NoPlace "__init__" = some none)
    (xp_NoPlace : PySem.W.tailIn K bmV qm_NoPlace = true)
    (xl_NoRoad : K.lookup C_NoRoad = some ⟨xc_NoRoad, xd_NoRoad, .cls xk_NoRoad, xs_NoRoad⟩)
    (xe_NoRoad : (⟨xc_NoRoad, xd_NoRoad, .cls xk_NoRoad, xs_NoRoad⟩ : Obj) = excClassObj qn_NoRoad qq_NoRoad C_NoRoad qN_NoRoad qb_NoRoad qm_NoRoad qh_NoRoad qs_NoRoad qu_NoRoad qa_NoRoad qc_NoRoad qd_NoRoad q0_NoRoad q1_NoRoad q2_NoRoad q3_NoRoad q5_NoRoad "ValueError.__new__")
    (xf_NoRoad : PySem.W.nsOkIn K qN_NoRoad = true)
    (xj_NoRoad : PySem.W.nsIn K qN_NoRoad "__init__" = some none)
    (xp_NoRoad : PySem.W.tailIn K bmV qm_NoRoad = true)
    (xl_BadWish : K.lookup C_BadWish = some ⟨xc_BadWish, xd_BadWish, .cls xk_BadWish, xs_BadWish⟩)
    (xe_BadWish : (⟨xc_BadWish, xd_BadWish, .cls xk_BadWish, xs_BadWish⟩ : Obj) = excClassObj qn_BadWish qq_BadWish C_BadWish qN_BadWish qb_BadWish qm_BadWish qh_BadWish qs_BadWish qu_BadWish qa_BadWish qc_BadWish qd_BadWish q0_BadWish q1_BadWish q2_BadWish q3_BadWish q5_BadWish "ValueError.__new__")
    (xf_BadWish : PySem.W.nsOkIn K qN_BadWish = true)
    (xj_BadWish : PySem.W.nsIn K qN_BadWish "__init__" = some none)
    (xp_BadWish : PySem.W.tailIn K bmV qm_BadWish = true)
    (a_check_counts : PySem.W.nsIn K mainGlobals "check_counts" = some (some (.ref f_check_counts)))
    (l_check_counts : K.lookup f_check_counts = some ⟨oc_check_counts, od_check_counts, .func (PySem.W.fnOf "check_counts" "check_counts" (defArgs s_check_counts) (defBody s_check_counts) (defScope s_check_counts) .none kV_check_counts dc_check_counts pm_check_counts an_check_counts cd_check_counts ct_check_counts), sl_check_counts⟩)
    (c_check_counts : PySem.W.codeIn K cd_check_counts "check_counts" = true)
    (k_check_counts : PySem.W.keepIn K (.ref f_check_counts) = true)
    (a_is_place : PySem.W.nsIn K mainGlobals "is_place" = some (some (.ref f_is_place)))
    (l_is_place : K.lookup f_is_place = some ⟨oc_is_place, od_is_place, .func (PySem.W.fnOf "is_place" "is_place" (defArgs s_is_place) (defBody s_is_place) (defScope s_is_place) .none kV_is_place dc_is_place pm_is_place an_is_place cd_is_place ct_is_place), sl_is_place⟩)
    (c_is_place : PySem.W.codeIn K cd_is_place "is_place" = true)
    (k_is_place : PySem.W.keepIn K (.ref f_is_place) = true)
    (a_check_ends : PySem.W.nsIn K mainGlobals "check_ends" = some (some (.ref f_check_ends)))
    (l_check_ends : K.lookup f_check_ends = some ⟨oc_check_ends, od_check_ends, .func (PySem.W.fnOf "check_ends" "check_ends" (defArgs s_check_ends) (defBody s_check_ends) (defScope s_check_ends) .none kV_check_ends dc_check_ends pm_check_ends an_check_ends cd_check_ends ct_check_ends), sl_check_ends⟩)
    (c_check_ends : PySem.W.codeIn K cd_check_ends "check_ends" = true)
    (k_check_ends : PySem.W.keepIn K (.ref f_check_ends) = true)
    (a_other_ends : PySem.W.nsIn K mainGlobals "other_ends" = some (some (.ref f_other_ends)))
    (l_other_ends : K.lookup f_other_ends = some ⟨oc_other_ends, od_other_ends, .func (PySem.W.fnOf "other_ends" "other_ends" (defArgs s_other_ends) (defBody s_other_ends) (defScope s_other_ends) .none kV_other_ends dc_other_ends pm_other_ends an_other_ends cd_other_ends ct_other_ends), sl_other_ends⟩)
    (c_other_ends : PySem.W.codeIn K cd_other_ends "other_ends" = true)
    (k_other_ends : PySem.W.keepIn K (.ref f_other_ends) = true)
    (a_check_joined : PySem.W.nsIn K mainGlobals "check_joined" = some (some (.ref f_check_joined)))
    (l_check_joined : K.lookup f_check_joined = some ⟨oc_check_joined, od_check_joined, .func (PySem.W.fnOf "check_joined" "check_joined" (defArgs s_check_joined) (defBody s_check_joined) (defScope s_check_joined) .none kV_check_joined dc_check_joined pm_check_joined an_check_joined cd_check_joined ct_check_joined), sl_check_joined⟩)
    (c_check_joined : PySem.W.codeIn K cd_check_joined "check_joined" = true)
    (k_check_joined : PySem.W.keepIn K (.ref f_check_joined) = true)
    (a_check_tolls : PySem.W.nsIn K mainGlobals "check_tolls" = some (some (.ref f_check_tolls)))
    (l_check_tolls : K.lookup f_check_tolls = some ⟨oc_check_tolls, od_check_tolls, .func (PySem.W.fnOf "check_tolls" "check_tolls" (defArgs s_check_tolls) (defBody s_check_tolls) (defScope s_check_tolls) .none kV_check_tolls dc_check_tolls pm_check_tolls an_check_tolls cd_check_tolls ct_check_tolls), sl_check_tolls⟩)
    (c_check_tolls : PySem.W.codeIn K cd_check_tolls "check_tolls" = true)
    (k_check_tolls : PySem.W.keepIn K (.ref f_check_tolls) = true)
    (a_Web___init__ : PySem.W.findIn K (.ref C_Web) "__init__" = some (some (.ref f_Web___init__)))
    (i_Web___init__ : PySem.W.isFn K (.ref f_Web___init__) = true)
    (l_Web___init__ : K.lookup f_Web___init__ = some ⟨oc_Web___init__, od_Web___init__, .func (PySem.W.fnOf "__init__" "Web.__init__" (defArgs s_Web___init__) (defBody s_Web___init__) (defScope s_Web___init__) .none kV_Web___init__ dc_Web___init__ pm_Web___init__ an_Web___init__ cd_Web___init__ ct_Web___init__), sl_Web___init__⟩)
    (c_Web___init__ : PySem.W.codeIn K cd_Web___init__ "Web.__init__" = true)
    (k_Web___init__ : PySem.W.keepIn K (.ref f_Web___init__) = true)
    (a_law_tolls : PySem.W.nsIn K mainGlobals "_law_tolls" = some (some (.ref f_law_tolls)))
    (l_law_tolls : K.lookup f_law_tolls = some ⟨oc_law_tolls, od_law_tolls, .func (PySem.W.fnOf "_law_tolls" "_law_tolls" (defArgs s_law_tolls) (defBody s_law_tolls) (defScope s_law_tolls) .none kV_law_tolls dc_law_tolls pm_law_tolls an_law_tolls cd_law_tolls ct_law_tolls), sl_law_tolls⟩)
    (c_law_tolls : PySem.W.codeIn K cd_law_tolls "_law_tolls" = true)
    (k_law_tolls : PySem.W.keepIn K (.ref f_law_tolls) = true)
    (a_law_brought_to : PySem.W.nsIn K mainGlobals "_law_brought_to" = some (some (.ref f_law_brought_to)))
    (l_law_brought_to : K.lookup f_law_brought_to = some ⟨oc_law_brought_to, od_law_brought_to, .func (PySem.W.fnOf "_law_brought_to" "_law_brought_to" (defArgs s_law_brought_to) (defBody s_law_brought_to) (defScope s_law_brought_to) .none kV_law_brought_to dc_law_brought_to pm_law_brought_to an_law_brought_to cd_law_brought_to ct_law_brought_to), sl_law_brought_to⟩)
    (c_law_brought_to : PySem.W.codeIn K cd_law_brought_to "_law_brought_to" = true)
    (k_law_brought_to : PySem.W.keepIn K (.ref f_law_brought_to) = true)
    (a_law_cell : PySem.W.nsIn K mainGlobals "_law_cell" = some (some (.ref f_law_cell)))
    (l_law_cell : K.lookup f_law_cell = some ⟨oc_law_cell, od_law_cell, .func (PySem.W.fnOf "_law_cell" "_law_cell" (defArgs s_law_cell) (defBody s_law_cell) (defScope s_law_cell) .none kV_law_cell dc_law_cell pm_law_cell an_law_cell cd_law_cell ct_law_cell), sl_law_cell⟩)
    (c_law_cell : PySem.W.codeIn K cd_law_cell "_law_cell" = true)
    (k_law_cell : PySem.W.keepIn K (.ref f_law_cell) = true)
    (a_law_down : PySem.W.nsIn K mainGlobals "_law_down" = some (some (.ref f_law_down)))
    (l_law_down : K.lookup f_law_down = some ⟨oc_law_down, od_law_down, .func (PySem.W.fnOf "_law_down" "_law_down" (defArgs s_law_down) (defBody s_law_down) (defScope s_law_down) .none kV_law_down dc_law_down pm_law_down an_law_down cd_law_down ct_law_down), sl_law_down⟩)
    (c_law_down : PySem.W.codeIn K cd_law_down "_law_down" = true)
    (k_law_down : PySem.W.keepIn K (.ref f_law_down) = true)
    (a_law_fewer : PySem.W.nsIn K mainGlobals "_law_fewer" = some (some (.ref f_law_fewer)))
    (l_law_fewer : K.lookup f_law_fewer = some ⟨oc_law_fewer, od_law_fewer, .func (PySem.W.fnOf "_law_fewer" "_law_fewer" (defArgs s_law_fewer) (defBody s_law_fewer) (defScope s_law_fewer) .none kV_law_fewer dc_law_fewer pm_law_fewer an_law_fewer cd_law_fewer ct_law_fewer), sl_law_fewer⟩)
    (c_law_fewer : PySem.W.codeIn K cd_law_fewer "_law_fewer" = true)
    (k_law_fewer : PySem.W.keepIn K (.ref f_law_fewer) = true)
    (a_law_load : PySem.W.nsIn K mainGlobals "_law_load" = some (some (.ref f_law_load)))
    (l_law_load : K.lookup f_law_load = some ⟨oc_law_load, od_law_load, .func (PySem.W.fnOf "_law_load" "_law_load" (defArgs s_law_load) (defBody s_law_load) (defScope s_law_load) .none kV_law_load dc_law_load pm_law_load an_law_load cd_law_load ct_law_load), sl_law_load⟩)
    (c_law_load : PySem.W.codeIn K cd_law_load "_law_load" = true)
    (k_law_load : PySem.W.keepIn K (.ref f_law_load) = true)
    (a_law_mixed : PySem.W.nsIn K mainGlobals "_law_mixed" = some (some (.ref f_law_mixed)))
    (l_law_mixed : K.lookup f_law_mixed = some ⟨oc_law_mixed, od_law_mixed, .func (PySem.W.fnOf "_law_mixed" "_law_mixed" (defArgs s_law_mixed) (defBody s_law_mixed) (defScope s_law_mixed) .none kV_law_mixed dc_law_mixed pm_law_mixed an_law_mixed cd_law_mixed ct_law_mixed), sl_law_mixed⟩)
    (c_law_mixed : PySem.W.codeIn K cd_law_mixed "_law_mixed" = true)
    (k_law_mixed : PySem.W.keepIn K (.ref f_law_mixed) = true)
    (a_law_numbers : PySem.W.nsIn K mainGlobals "_law_numbers" = some (some (.ref f_law_numbers)))
    (l_law_numbers : K.lookup f_law_numbers = some ⟨oc_law_numbers, od_law_numbers, .func (PySem.W.fnOf "_law_numbers" "_law_numbers" (defArgs s_law_numbers) (defBody s_law_numbers) (defScope s_law_numbers) .none kV_law_numbers dc_law_numbers pm_law_numbers an_law_numbers cd_law_numbers ct_law_numbers), sl_law_numbers⟩)
    (c_law_numbers : PySem.W.codeIn K cd_law_numbers "_law_numbers" = true)
    (k_law_numbers : PySem.W.keepIn K (.ref f_law_numbers) = true)
    (a_law_parted : PySem.W.nsIn K mainGlobals "_law_parted" = some (some (.ref f_law_parted)))
    (l_law_parted : K.lookup f_law_parted = some ⟨oc_law_parted, od_law_parted, .func (PySem.W.fnOf "_law_parted" "_law_parted" (defArgs s_law_parted) (defBody s_law_parted) (defScope s_law_parted) .none kV_law_parted dc_law_parted pm_law_parted an_law_parted cd_law_parted ct_law_parted), sl_law_parted⟩)
    (c_law_parted : PySem.W.codeIn K cd_law_parted "_law_parted" = true)
    (k_law_parted : PySem.W.keepIn K (.ref f_law_parted) = true)
    (a_law_slack : PySem.W.nsIn K mainGlobals "_law_slack" = some (some (.ref f_law_slack)))
    (l_law_slack : K.lookup f_law_slack = some ⟨oc_law_slack, od_law_slack, .func (PySem.W.fnOf "_law_slack" "_law_slack" (defArgs s_law_slack) (defBody s_law_slack) (defScope s_law_slack) .none kV_law_slack dc_law_slack pm_law_slack an_law_slack cd_law_slack ct_law_slack), sl_law_slack⟩)
    (c_law_slack : PySem.W.codeIn K cd_law_slack "_law_slack" = true)
    (k_law_slack : PySem.W.keepIn K (.ref f_law_slack) = true)
    (a_law_least : PySem.W.nsIn K mainGlobals "_law_least" = some (some (.ref f_law_least)))
    (l_law_least : K.lookup f_law_least = some ⟨oc_law_least, od_law_least, .func (PySem.W.fnOf "_law_least" "_law_least" (defArgs s_law_least) (defBody s_law_least) (defScope s_law_least) .none kV_law_least dc_law_least pm_law_least an_law_least cd_law_least ct_law_least), sl_law_least⟩)
    (c_law_least : PySem.W.codeIn K cd_law_least "_law_least" = true)
    (k_law_least : PySem.W.keepIn K (.ref f_law_least) = true)
    (a_law_spread : PySem.W.nsIn K mainGlobals "_law_spread" = some (some (.ref f_law_spread)))
    (l_law_spread : K.lookup f_law_spread = some ⟨oc_law_spread, od_law_spread, .func (PySem.W.fnOf "_law_spread" "_law_spread" (defArgs s_law_spread) (defBody s_law_spread) (defScope s_law_spread) .none kV_law_spread dc_law_spread pm_law_spread an_law_spread cd_law_spread ct_law_spread), sl_law_spread⟩)
    (c_law_spread : PySem.W.codeIn K cd_law_spread "_law_spread" = true)
    (k_law_spread : PySem.W.keepIn K (.ref f_law_spread) = true)
    (a_law_wanted : PySem.W.nsIn K mainGlobals "_law_wanted" = some (some (.ref f_law_wanted)))
    (l_law_wanted : K.lookup f_law_wanted = some ⟨oc_law_wanted, od_law_wanted, .func (PySem.W.fnOf "_law_wanted" "_law_wanted" (defArgs s_law_wanted) (defBody s_law_wanted) (defScope s_law_wanted) .none kV_law_wanted dc_law_wanted pm_law_wanted an_law_wanted cd_law_wanted ct_law_wanted), sl_law_wanted⟩)
    (c_law_wanted : PySem.W.codeIn K cd_law_wanted "_law_wanted" = true)
    (k_law_wanted : PySem.W.keepIn K (.ref f_law_wanted) = true)
    (a_law_toll : PySem.W.nsIn K mainGlobals "_law_toll" = some (some (.ref f_law_toll)))
    (l_law_toll : K.lookup f_law_toll = some ⟨oc_law_toll, od_law_toll, .func (PySem.W.fnOf "_law_toll" "_law_toll" (defArgs s_law_toll) (defBody s_law_toll) (defScope s_law_toll) .none kV_law_toll dc_law_toll pm_law_toll an_law_toll cd_law_toll ct_law_toll), sl_law_toll⟩)
    (c_law_toll : PySem.W.codeIn K cd_law_toll "_law_toll" = true)
    (k_law_toll : PySem.W.keepIn K (.ref f_law_toll) = true)
    (a_law_web : PySem.W.nsIn K mainGlobals "_law_web" = some (some (.ref f_law_web)))
    (l_law_web : K.lookup f_law_web = some ⟨oc_law_web, od_law_web, .func (PySem.W.fnOf "_law_web" "_law_web" (defArgs s_law_web) (defBody s_law_web) (defScope s_law_web) .none kV_law_web dc_law_web pm_law_web an_law_web cd_law_web ct_law_web), sl_law_web⟩)
    (c_law_web : PySem.W.codeIn K cd_law_web "_law_web" = true)
    (k_law_web : PySem.W.keepIn K (.ref f_law_web) = true)
    (a_check_place : PySem.W.nsIn K mainGlobals "check_place" = some (some (.ref f_check_place)))
    (l_check_place : K.lookup f_check_place = some ⟨oc_check_place, od_check_place, .func (PySem.W.fnOf "check_place" "check_place" (defArgs s_check_place) (defBody s_check_place) (defScope s_check_place) .none kV_check_place dc_check_place pm_check_place an_check_place cd_check_place ct_check_place), sl_check_place⟩)
    (c_check_place : PySem.W.codeIn K cd_check_place "check_place" = true)
    (k_check_place : PySem.W.keepIn K (.ref f_check_place) = true)
    (a_check_wanted : PySem.W.nsIn K mainGlobals "check_wanted" = some (some (.ref f_check_wanted)))
    (l_check_wanted : K.lookup f_check_wanted = some ⟨oc_check_wanted, od_check_wanted, .func (PySem.W.fnOf "check_wanted" "check_wanted" (defArgs s_check_wanted) (defBody s_check_wanted) (defScope s_check_wanted) .none kV_check_wanted dc_check_wanted pm_check_wanted an_check_wanted cd_check_wanted ct_check_wanted), sl_check_wanted⟩)
    (c_check_wanted : PySem.W.codeIn K cd_check_wanted "check_wanted" = true)
    (k_check_wanted : PySem.W.keepIn K (.ref f_check_wanted) = true)
    (a_neighbours : PySem.W.nsIn K mainGlobals "neighbours" = some (some (.ref f_neighbours)))
    (l_neighbours : K.lookup f_neighbours = some ⟨oc_neighbours, od_neighbours, .func (PySem.W.fnOf "neighbours" "neighbours" (defArgs s_neighbours) (defBody s_neighbours) (defScope s_neighbours) .none kV_neighbours dc_neighbours pm_neighbours an_neighbours cd_neighbours ct_neighbours), sl_neighbours⟩)
    (c_neighbours : PySem.W.codeIn K cd_neighbours "neighbours" = true)
    (k_neighbours : PySem.W.keepIn K (.ref f_neighbours) = true)
    (a_kids : PySem.W.nsIn K mainGlobals "kids" = some (some (.ref f_kids)))
    (l_kids : K.lookup f_kids = some ⟨oc_kids, od_kids, .func (PySem.W.fnOf "kids" "kids" (defArgs s_kids) (defBody s_kids) (defScope s_kids) .none kV_kids dc_kids pm_kids an_kids cd_kids ct_kids), sl_kids⟩)
    (c_kids : PySem.W.codeIn K cd_kids "kids" = true)
    (k_kids : PySem.W.keepIn K (.ref f_kids) = true)
    (a_ahead : PySem.W.nsIn K mainGlobals "ahead" = some (some (.ref f_ahead)))
    (l_ahead : K.lookup f_ahead = some ⟨oc_ahead, od_ahead, .func (PySem.W.fnOf "ahead" "ahead" (defArgs s_ahead) (defBody s_ahead) (defScope s_ahead) .none kV_ahead dc_ahead pm_ahead an_ahead cd_ahead ct_ahead), sl_ahead⟩)
    (c_ahead : PySem.W.codeIn K cd_ahead "ahead" = true)
    (k_ahead : PySem.W.keepIn K (.ref f_ahead) = true)
    (a_down : PySem.W.nsIn K mainGlobals "down" = some (some (.ref f_down)))
    (l_down : K.lookup f_down = some ⟨oc_down, od_down, .func (PySem.W.fnOf "down" "down" (defArgs s_down) (defBody s_down) (defScope s_down) .none kV_down dc_down pm_down an_down cd_down ct_down), sl_down⟩)
    (c_down : PySem.W.codeIn K cd_down "down" = true)
    (k_down : PySem.W.keepIn K (.ref f_down) = true)
    (a_inward : PySem.W.nsIn K mainGlobals "inward" = some (some (.ref f_inward)))
    (l_inward : K.lookup f_inward = some ⟨oc_inward, od_inward, .func (PySem.W.fnOf "inward" "inward" (defArgs s_inward) (defBody s_inward) (defScope s_inward) .none kV_inward dc_inward pm_inward an_inward cd_inward ct_inward), sl_inward⟩)
    (c_inward : PySem.W.codeIn K cd_inward "inward" = true)
    (k_inward : PySem.W.keepIn K (.ref f_inward) = true)
    (a_toll : PySem.W.nsIn K mainGlobals "toll" = some (some (.ref f_toll)))
    (l_toll : K.lookup f_toll = some ⟨oc_toll, od_toll, .func (PySem.W.fnOf "toll" "toll" (defArgs s_toll) (defBody s_toll) (defScope s_toll) .none kV_toll dc_toll pm_toll an_toll cd_toll ct_toll), sl_toll⟩)
    (c_toll : PySem.W.codeIn K cd_toll "toll" = true)
    (k_toll : PySem.W.keepIn K (.ref f_toll) = true)
    (a_bound_by : PySem.W.nsIn K mainGlobals "bound_by" = some (some (.ref f_bound_by)))
    (l_bound_by : K.lookup f_bound_by = some ⟨oc_bound_by, od_bound_by, .func (PySem.W.fnOf "bound_by" "bound_by" (defArgs s_bound_by) (defBody s_bound_by) (defScope s_bound_by) .none kV_bound_by dc_bound_by pm_bound_by an_bound_by cd_bound_by ct_bound_by), sl_bound_by⟩)
    (c_bound_by : PySem.W.codeIn K cd_bound_by "bound_by" = true)
    (k_bound_by : PySem.W.keepIn K (.ref f_bound_by) = true)
    (a_borne : PySem.W.nsIn K mainGlobals "borne" = some (some (.ref f_borne)))
    (l_borne : K.lookup f_borne = some ⟨oc_borne, od_borne, .func (PySem.W.fnOf "borne" "borne" (defArgs s_borne) (defBody s_borne) (defScope s_borne) .none kV_borne dc_borne pm_borne an_borne cd_borne ct_borne), sl_borne⟩)
    (c_borne : PySem.W.codeIn K cd_borne "borne" = true)
    (k_borne : PySem.W.keepIn K (.ref f_borne) = true)
    (a_least_weights : PySem.W.nsIn K mainGlobals "least_weights" = some (some (.ref f_least_weights)))
    (l_least_weights : K.lookup f_least_weights = some ⟨oc_least_weights, od_least_weights, .func (PySem.W.fnOf "least_weights" "least_weights" (defArgs s_least_weights) (defBody s_least_weights) (defScope s_least_weights) .none kV_least_weights dc_least_weights pm_least_weights an_least_weights cd_least_weights ct_least_weights), sl_least_weights⟩)
    (c_least_weights : PySem.W.codeIn K cd_least_weights "least_weights" = true)
    (k_least_weights : PySem.W.keepIn K (.ref f_least_weights) = true)
    (a_enough : PySem.W.nsIn K mainGlobals "enough" = some (some (.ref f_enough)))
    (l_enough : K.lookup f_enough = some ⟨oc_enough, od_enough, .func (PySem.W.fnOf "enough" "enough" (defArgs s_enough) (defBody s_enough) (defScope s_enough) .none kV_enough dc_enough pm_enough an_enough cd_enough ct_enough), sl_enough⟩)
    (c_enough : PySem.W.codeIn K cd_enough "enough" = true)
    (k_enough : PySem.W.keepIn K (.ref f_enough) = true)
    (a_weighed : PySem.W.nsIn K mainGlobals "weighed" = some (some (.ref f_weighed)))
    (l_weighed : K.lookup f_weighed = some ⟨oc_weighed, od_weighed, .func (PySem.W.fnOf "weighed" "weighed" (defArgs s_weighed) (defBody s_weighed) (defScope s_weighed) .none kV_weighed dc_weighed pm_weighed an_weighed cd_weighed ct_weighed), sl_weighed⟩)
    (c_weighed : PySem.W.codeIn K cd_weighed "weighed" = true)
    (k_weighed : PySem.W.keepIn K (.ref f_weighed) = true)
    (a_law : PySem.W.nsIn K mainGlobals "law" = some (some (.ref f_law)))
    (l_law : K.lookup f_law = some ⟨oc_law, od_law, .func (PySem.W.fnOf "law" "law" (defArgs s_law) (defBody s_law) (defScope s_law) .none kV_law dc_law pm_law an_law cd_law ct_law), sl_law⟩)
    (c_law : PySem.W.codeIn K cd_law "law" = true)
    (k_law : PySem.W.keepIn K (.ref f_law) = true)
    (pg_Web : PySem.W.plainGet K C_Web Str.empty = true)
    (hd_Web : PySem.W.hasDictIn K C_Web = true)
    (po_Web : PySem.W.plainOver K C_Web = true)
    (sa_Web : PySem.W.findIn K (.ref C_Web) "__setattr__" = some (some (.builtin "object.__setattr__")))
    (mk_Web : PySem.W.makesIn K C_Web = true)
    (kc_Web : PySem.W.keepIn K (.ref C_Web) = true)
    (nm_Web : PySem.W.findIn K (.ref C_Web) "many" = some none)
    (nr_Web : PySem.W.findIn K (.ref C_Web) "roads" = some none)
    (z_range : PySem.W.nsIn K mainGlobals "range" = some none)
    (z_zip : PySem.W.nsIn K mainGlobals "zip" = some none)
    (z_len : PySem.W.nsIn K mainGlobals "len" = some none)
    (z_all : PySem.W.nsIn K mainGlobals "all" = some none)
    (z_int : PySem.W.nsIn K mainGlobals "int" = some none)
    (z_tuple : PySem.W.nsIn K mainGlobals "tuple" = some none)
    (z_list : PySem.W.nsIn K mainGlobals "list" = some none)
    (z_reversed : PySem.W.nsIn K mainGlobals "reversed" = some none)
    (z_sorted : PySem.W.nsIn K mainGlobals "sorted" = some none)
    (z_min : PySem.W.nsIn K mainGlobals "min" = some none)
    (z_max : PySem.W.nsIn K mainGlobals "max" = some none)
    (z_sum : PySem.W.nsIn K mainGlobals "sum" = some none)
    (v_MOST_PLACES : PySem.W.nsIn K mainGlobals "MOST_PLACES" = some (some (.int 24 t_MOST_PLACES)))
    (v_LEAST_TOLL : PySem.W.nsIn K mainGlobals "LEAST_TOLL" = some (some (.int 2 t_LEAST_TOLL)))
    (v_MOST_TOLL : PySem.W.nsIn K mainGlobals "MOST_TOLL" = some (some (.int 1000000 t_MOST_TOLL))) :
    ∃ fd : FuncData, (∀ (s : Shared) (v : Value), BindsTo s fd ⟨[v], []⟩ [("script", v)]) ∧ ∀ base : Heap, K.In base → base.Ns mainGlobals mg → FnOk l.prog w K mg base (CXe l.prog w) 10 fa fd ["script"] (spLaw K) := by
  have e := hfa.symm.trans (PySem.W.mg_of X G a_law)
  cases e
  let T : Txt K mg := ⟨C_BadWeb, PySem.W.mg_of X G ac_BadWeb, C_NoPlace, PySem.W.mg_of X G ac_NoPlace, C_NoRoad, PySem.W.mg_of X G ac_NoRoad, C_BadWish, PySem.W.mg_of X G ac_BadWish, C_Web, PySem.W.mg_of X G ac_Web, xobj_mk _ _ _ _ _ _ _ _ _ _ _ _ _ _ _ _ xl_NoPlace xe_NoPlace xf_NoPlace xj_NoPlace xp_NoPlace, xobj_mk _ _ _ _ _ _ _ _ _ _ _ _ _ _ _ _ xl_NoRoad xe_NoRoad xf_NoRoad xj_NoRoad xp_NoRoad, xobj_mk _ _ _ _ _ _ _ _ _ _ _ _ _ _ _ _ xl_BadWish xe_BadWish xf_BadWish xj_BadWish xp_BadWish, PySem.W.mg_none_of X G z_range, PySem.W.mg_none_of X G z_zip, PySem.W.mg_none_of X G z_len, PySem.W.mg_none_of X G z_all, PySem.W.mg_none_of X G z_int, PySem.W.mg_none_of X G z_tuple, PySem.W.mg_none_of X G z_list, PySem.W.mg_none_of X G z_reversed, PySem.W.mg_none_of X G z_sorted, PySem.W.mg_none_of X G z_min, PySem.W.mg_none_of X G z_max, PySem.W.mg_none_of X G z_sum, ⟨_, PySem.W.mg_of X G v_MOST_PLACES⟩, ⟨_, PySem.W.mg_of X G v_LEAST_TOLL⟩, ⟨_, PySem.W.mg_of X G v_MOST_TOLL⟩, ⟨pg_Web, hd_Web, po_Web, sa_Web⟩, nm_Web, nr_Web⟩
  have F_check_counts := fun_mk (st := s_check_counts) l_check_counts c_check_counts k_check_counts
  have b_check_counts := F_check_counts.binds (ps := ["many", "roads"]) fun _ _ _ _ _ _ us hl => by obtain ⟨u0, u1, rfl⟩ := us2 hl; rfl
  have D_check_counts : Df K mg "check_counts" s_check_counts ["many", "roads"] f_check_counts _ := ⟨F_check_counts, PySem.W.mg_of X G a_check_counts, b_check_counts⟩
  have F_is_place := fun_mk (st := s_is_place) l_is_place c_is_place k_is_place
  have b_is_place := F_is_place.binds (ps := ["many", "number"]) fun _ _ _ _ _ _ us hl => by obtain ⟨u0, u1, rfl⟩ := us2 hl; rfl
  have D_is_place : Df K mg "is_place" s_is_place ["many", "number"] f_is_place _ := ⟨F_is_place, PySem.W.mg_of X G a_is_place, b_is_place⟩
  have F_check_ends := fun_mk (st := s_check_ends) l_check_ends c_check_ends k_check_ends
  have b_check_ends := F_check_ends.binds (ps := ["many", "road"]) fun _ _ _ _ _ _ us hl => by obtain ⟨u0, u1, rfl⟩ := us2 hl; rfl
  have D_check_ends : Df K mg "check_ends" s_check_ends ["many", "road"] f_check_ends _ := ⟨F_check_ends, PySem.W.mg_of X G a_check_ends, b_check_ends⟩
  have F_other_ends := fun_mk (st := s_other_ends) l_other_ends c_other_ends k_other_ends
  have b_other_ends := F_other_ends.binds (ps := ["roads", "place"]) fun _ _ _ _ _ _ us hl => by obtain ⟨u0, u1, rfl⟩ := us2 hl; rfl
  have D_other_ends : Df K mg "other_ends" s_other_ends ["roads", "place"] f_other_ends _ := ⟨F_other_ends, PySem.W.mg_of X G a_other_ends, b_other_ends⟩
  have F_check_joined := fun_mk (st := s_check_joined) l_check_joined c_check_joined k_check_joined
  have b_check_joined := F_check_joined.binds (ps := ["many", "roads"]) fun _ _ _ _ _ _ us hl => by obtain ⟨u0, u1, rfl⟩ := us2 hl; rfl
  have D_check_joined : Df K mg "check_joined" s_check_joined ["many", "roads"] f_check_joined _ := ⟨F_check_joined, PySem.W.mg_of X G a_check_joined, b_check_joined⟩
  have F_check_tolls := fun_mk (st := s_check_tolls) l_check_tolls c_check_tolls k_check_tolls
  have b_check_tolls := F_check_tolls.binds (ps := ["road"]) fun _ _ _ _ _ _ us hl => by obtain ⟨u0, rfl⟩ := us1 hl; rfl
  have D_check_tolls : Df K mg "check_tolls" s_check_tolls ["road"] f_check_tolls _ := ⟨F_check_tolls, PySem.W.mg_of X G a_check_tolls, b_check_tolls⟩
  have F_Web___init__ := fun_mk (st := s_Web___init__) l_Web___init__ c_Web___init__ k_Web___init__
  have b_Web := F_Web___init__.binds (ps := ["self", "many", "roads"]) fun _ _ _ _ _ _ us hl => by obtain ⟨u0, u1, u2, rfl⟩ := us3 hl; rfl
  have F_law_tolls := fun_mk (st := s_law_tolls) l_law_tolls c_law_tolls k_law_tolls
  have b_law_tolls := F_law_tolls.binds (ps := ["roads"]) fun _ _ _ _ _ _ us hl => by obtain ⟨u0, rfl⟩ := us1 hl; rfl
  have D_law_tolls : Df K mg "_law_tolls" s_law_tolls ["roads"] f_law_tolls _ := ⟨F_law_tolls, PySem.W.mg_of X G a_law_tolls, b_law_tolls⟩
  have F_law_brought_to := fun_mk (st := s_law_brought_to) l_law_brought_to c_law_brought_to k_law_brought_to
  have b_law_brought_to := F_law_brought_to.binds (ps := ["laying", "held", "cell"]) fun _ _ _ _ _ _ us hl => by obtain ⟨u0, u1, u2, rfl⟩ := us3 hl; rfl
  have D_law_brought_to : Df K mg "_law_brought_to" s_law_brought_to ["laying", "held", "cell"] f_law_brought_to _ := ⟨F_law_brought_to, PySem.W.mg_of X G a_law_brought_to, b_law_brought_to⟩
  have F_law_cell := fun_mk (st := s_law_cell) l_law_cell c_law_cell k_law_cell
  have b_law_cell := F_law_cell.binds (ps := ["script", "k"]) fun _ _ _ _ _ _ us hl => by obtain ⟨u0, u1, rfl⟩ := us2 hl; rfl
  have D_law_cell : Df K mg "_law_cell" s_law_cell ["script", "k"] f_law_cell _ := ⟨F_law_cell, PySem.W.mg_of X G a_law_cell, b_law_cell⟩
  have F_law_down := fun_mk (st := s_law_down) l_law_down c_law_down k_law_down
  have b_law_down := F_law_down.binds (ps := ["many", "tolls", "r"]) fun _ _ _ _ _ _ us hl => by obtain ⟨u0, u1, u2, rfl⟩ := us3 hl; rfl
  have D_law_down : Df K mg "_law_down" s_law_down ["many", "tolls", "r"] f_law_down _ := ⟨F_law_down, PySem.W.mg_of X G a_law_down, b_law_down⟩
  have F_law_fewer := fun_mk (st := s_law_fewer) l_law_fewer c_law_fewer k_law_fewer
  have b_law_fewer := F_law_fewer.binds (ps := ["laying", "cell"]) fun _ _ _ _ _ _ us hl => by obtain ⟨u0, u1, rfl⟩ := us2 hl; rfl
  have D_law_fewer : Df K mg "_law_fewer" s_law_fewer ["laying", "cell"] f_law_fewer _ := ⟨F_law_fewer, PySem.W.mg_of X G a_law_fewer, b_law_fewer⟩
  have F_law_load := fun_mk (st := s_law_load) l_law_load c_law_load k_law_load
  have b_law_load := F_law_load.binds (ps := ["tolls", "order", "laying"]) fun _ _ _ _ _ _ us hl => by obtain ⟨u0, u1, u2, rfl⟩ := us3 hl; rfl
  have D_law_load : Df K mg "_law_load" s_law_load ["tolls", "order", "laying"] f_law_load _ := ⟨F_law_load, PySem.W.mg_of X G a_law_load, b_law_load⟩
  have F_law_mixed := fun_mk (st := s_law_mixed) l_law_mixed c_law_mixed k_law_mixed
  have b_law_mixed := F_law_mixed.binds (ps := ["cell", "k"]) fun _ _ _ _ _ _ us hl => by obtain ⟨u0, u1, rfl⟩ := us2 hl; rfl
  have D_law_mixed : Df K mg "_law_mixed" s_law_mixed ["cell", "k"] f_law_mixed _ := ⟨F_law_mixed, PySem.W.mg_of X G a_law_mixed, b_law_mixed⟩
  have F_law_numbers := fun_mk (st := s_law_numbers) l_law_numbers c_law_numbers k_law_numbers
  have b_law_numbers := F_law_numbers.binds (ps := ["script", "many"]) fun _ _ _ _ _ _ us hl => by obtain ⟨u0, u1, rfl⟩ := us2 hl; rfl
  have D_law_numbers : Df K mg "_law_numbers" s_law_numbers ["script", "many"] f_law_numbers _ := ⟨F_law_numbers, PySem.W.mg_of X G a_law_numbers, b_law_numbers⟩
  have F_law_parted := fun_mk (st := s_law_parted) l_law_parted c_law_parted k_law_parted
  have b_law_parted := F_law_parted.binds (ps := ["held", "many", "cell"]) fun _ _ _ _ _ _ us hl => by obtain ⟨u0, u1, u2, rfl⟩ := us3 hl; rfl
  have D_law_parted : Df K mg "_law_parted" s_law_parted ["held", "many", "cell"] f_law_parted _ := ⟨F_law_parted, PySem.W.mg_of X G a_law_parted, b_law_parted⟩
  have F_law_slack := fun_mk (st := s_law_slack) l_law_slack c_law_slack k_law_slack
  have b_law_slack := F_law_slack.binds (ps := ["tolls", "order", "numbers"]) fun _ _ _ _ _ _ us hl => by obtain ⟨u0, u1, u2, rfl⟩ := us3 hl; rfl
  have D_law_slack : Df K mg "_law_slack" s_law_slack ["tolls", "order", "numbers"] f_law_slack _ := ⟨F_law_slack, PySem.W.mg_of X G a_law_slack, b_law_slack⟩
  have F_law_least := fun_mk (st := s_law_least) l_law_least c_law_least k_law_least
  have b_law_least := F_law_least.binds (ps := ["tolls", "order"]) fun _ _ _ _ _ _ us hl => by obtain ⟨u0, u1, rfl⟩ := us2 hl; rfl
  have D_law_least : Df K mg "_law_least" s_law_least ["tolls", "order"] f_law_least _ := ⟨F_law_least, PySem.W.mg_of X G a_law_least, b_law_least⟩
  have F_law_spread := fun_mk (st := s_law_spread) l_law_spread c_law_spread k_law_spread
  have b_law_spread := F_law_spread.binds (ps := ["tolls", "order", "wanted", "cell"]) fun _ _ _ _ _ _ us hl => by obtain ⟨u0, u1, u2, u3, rfl⟩ := us4 hl; rfl
  have D_law_spread : Df K mg "_law_spread" s_law_spread ["tolls", "order", "wanted", "cell"] f_law_spread _ := ⟨F_law_spread, PySem.W.mg_of X G a_law_spread, b_law_spread⟩
  have F_law_wanted := fun_mk (st := s_law_wanted) l_law_wanted c_law_wanted k_law_wanted
  have b_law_wanted := F_law_wanted.binds (ps := ["cell"]) fun _ _ _ _ _ _ us hl => by obtain ⟨u0, rfl⟩ := us1 hl; rfl
  have D_law_wanted : Df K mg "_law_wanted" s_law_wanted ["cell"] f_law_wanted _ := ⟨F_law_wanted, PySem.W.mg_of X G a_law_wanted, b_law_wanted⟩
  have F_law_toll := fun_mk (st := s_law_toll) l_law_toll c_law_toll k_law_toll
  have b_law_toll := F_law_toll.binds (ps := ["rest"]) fun _ _ _ _ _ _ us hl => by obtain ⟨u0, rfl⟩ := us1 hl; rfl
  have D_law_toll : Df K mg "_law_toll" s_law_toll ["rest"] f_law_toll _ := ⟨F_law_toll, PySem.W.mg_of X G a_law_toll, b_law_toll⟩
  have F_law_web := fun_mk (st := s_law_web) l_law_web c_law_web k_law_web
  have b_law_web := F_law_web.binds (ps := ["numbers"]) fun _ _ _ _ _ _ us hl => by obtain ⟨u0, rfl⟩ := us1 hl; rfl
  have D_law_web : Df K mg "_law_web" s_law_web ["numbers"] f_law_web _ := ⟨F_law_web, PySem.W.mg_of X G a_law_web, b_law_web⟩
  have F_check_place := fun_mk (st := s_check_place) l_check_place c_check_place k_check_place
  have b_check_place := F_check_place.binds (ps := ["web", "number"]) fun _ _ _ _ _ _ us hl => by obtain ⟨u0, u1, rfl⟩ := us2 hl; rfl
  have D_check_place : Df K mg "check_place" s_check_place ["web", "number"] f_check_place _ := ⟨F_check_place, PySem.W.mg_of X G a_check_place, b_check_place⟩
  have F_check_wanted := fun_mk (st := s_check_wanted) l_check_wanted c_check_wanted k_check_wanted
  have b_check_wanted := F_check_wanted.binds (ps := ["web", "r", "wanted"]) fun _ _ _ _ _ _ us hl => by obtain ⟨u0, u1, u2, rfl⟩ := us3 hl; rfl
  have D_check_wanted : Df K mg "check_wanted" s_check_wanted ["web", "r", "wanted"] f_check_wanted _ := ⟨F_check_wanted, PySem.W.mg_of X G a_check_wanted, b_check_wanted⟩
  have F_neighbours := fun_mk (st := s_neighbours) l_neighbours c_neighbours k_neighbours
  have b_neighbours := F_neighbours.binds (ps := ["web", "a"]) fun _ _ _ _ _ _ us hl => by obtain ⟨u0, u1, rfl⟩ := us2 hl; rfl
  have D_neighbours : Df K mg "neighbours" s_neighbours ["web", "a"] f_neighbours _ := ⟨F_neighbours, PySem.W.mg_of X G a_neighbours, b_neighbours⟩
  have F_kids := fun_mk (st := s_kids) l_kids c_kids k_kids
  have b_kids := F_kids.binds (ps := ["web", "place", "front"]) fun _ _ _ _ _ _ us hl => by obtain ⟨u0, u1, u2, rfl⟩ := us3 hl; rfl
  have D_kids : Df K mg "kids" s_kids ["web", "place", "front"] f_kids _ := ⟨F_kids, PySem.W.mg_of X G a_kids, b_kids⟩
  have F_ahead := fun_mk (st := s_ahead) l_ahead c_ahead k_ahead
  have b_ahead := F_ahead.binds (ps := ["web", "r"]) fun _ _ _ _ _ _ us hl => by obtain ⟨u0, u1, rfl⟩ := us2 hl; rfl
  have D_ahead : Df K mg "ahead" s_ahead ["web", "r"] f_ahead _ := ⟨F_ahead, PySem.W.mg_of X G a_ahead, b_ahead⟩
  have F_down := fun_mk (st := s_down) l_down c_down k_down
  have b_down := F_down.binds (ps := ["web", "r"]) fun _ _ _ _ _ _ us hl => by obtain ⟨u0, u1, rfl⟩ := us2 hl; rfl
  have D_down : Df K mg "down" s_down ["web", "r"] f_down _ := ⟨F_down, PySem.W.mg_of X G a_down, b_down⟩
  have F_inward := fun_mk (st := s_inward) l_inward c_inward k_inward
  have b_inward := F_inward.binds (ps := ["web", "r"]) fun _ _ _ _ _ _ us hl => by obtain ⟨u0, u1, rfl⟩ := us2 hl; rfl
  have D_inward : Df K mg "inward" s_inward ["web", "r"] f_inward _ := ⟨F_inward, PySem.W.mg_of X G a_inward, b_inward⟩
  have F_toll := fun_mk (st := s_toll) l_toll c_toll k_toll
  have b_toll := F_toll.binds (ps := ["web", "a", "b"]) fun _ _ _ _ _ _ us hl => by obtain ⟨u0, u1, u2, rfl⟩ := us3 hl; rfl
  have D_toll : Df K mg "toll" s_toll ["web", "a", "b"] f_toll _ := ⟨F_toll, PySem.W.mg_of X G a_toll, b_toll⟩
  have F_bound_by := fun_mk (st := s_bound_by) l_bound_by c_bound_by k_bound_by
  have b_bound_by := F_bound_by.binds (ps := ["web", "r", "wanted", "weights"]) fun _ _ _ _ _ _ us hl => by obtain ⟨u0, u1, u2, u3, rfl⟩ := us4 hl; rfl
  have D_bound_by : Df K mg "bound_by" s_bound_by ["web", "r", "wanted", "weights"] f_bound_by _ := ⟨F_bound_by, PySem.W.mg_of X G a_bound_by, b_bound_by⟩
  have F_borne := fun_mk (st := s_borne) l_borne c_borne k_borne
  have b_borne := F_borne.binds (ps := ["web", "weights", "place", "front"]) fun _ _ _ _ _ _ us hl => by obtain ⟨u0, u1, u2, u3, rfl⟩ := us4 hl; rfl
  have D_borne : Df K mg "borne" s_borne ["web", "weights", "place", "front"] f_borne _ := ⟨F_borne, PySem.W.mg_of X G a_borne, b_borne⟩
  have F_least_weights := fun_mk (st := s_least_weights) l_least_weights c_least_weights k_least_weights
  have b_least_weights := F_least_weights.binds (ps := ["web", "r"]) fun _ _ _ _ _ _ us hl => by obtain ⟨u0, u1, rfl⟩ := us2 hl; rfl
  have D_least_weights : Df K mg "least_weights" s_least_weights ["web", "r"] f_least_weights _ := ⟨F_least_weights, PySem.W.mg_of X G a_least_weights, b_least_weights⟩
  have F_enough := fun_mk (st := s_enough) l_enough c_enough k_enough
  have b_enough := F_enough.binds (ps := ["web", "r", "wanted"]) fun _ _ _ _ _ _ us hl => by obtain ⟨u0, u1, u2, rfl⟩ := us3 hl; rfl
  have D_enough : Df K mg "enough" s_enough ["web", "r", "wanted"] f_enough _ := ⟨F_enough, PySem.W.mg_of X G a_enough, b_enough⟩
  have F_weighed := fun_mk (st := s_weighed) l_weighed c_weighed k_weighed
  have b_weighed := F_weighed.binds (ps := ["weights", "laying"]) fun _ _ _ _ _ _ us hl => by obtain ⟨u0, u1, rfl⟩ := us2 hl; rfl
  have D_weighed : Df K mg "weighed" s_weighed ["weights", "laying"] f_weighed _ := ⟨F_weighed, PySem.W.mg_of X G a_weighed, b_weighed⟩
  have F_law := fun_mk (st := s_law) l_law c_law k_law
  have b_law := F_law.binds (ps := ["script"]) fun _ _ _ _ _ _ us hl => by obtain ⟨u0, rfl⟩ := us1 hl; rfl
  have D_law : Df K mg "law" s_law ["script"] fa _ := ⟨F_law, PySem.W.mg_of X G a_law, b_law⟩
  refine ⟨PySem.W.fnOf "law" "law" (defArgs s_law) (defBody s_law) (defScope s_law) .none kV_law dc_law pm_law an_law cd_law ct_law, fun s v => .of_eq rfl, fun base _ _ => ?_⟩
  have M_Web : Mk K T.Web f_Web___init__ := ⟨mk_Web, a_Web___init__, i_Web___init__, kc_Web⟩
  have G_check_counts := ok_check_counts (P := l.prog) (w := w) (base := base) T quietE D_check_counts
  have G_is_place := ok_is_place (P := l.prog) (w := w) (base := base) T quietE D_is_place
  have G_check_ends := ok_check_ends (P := l.prog) (w := w) (base := base) T quietE D_check_ends D_is_place G_is_place
  have G_other_ends := ok_other_ends (P := l.prog) (w := w) (base := base) T quietE D_other_ends
  have G_check_joined := ok_check_joined (P := l.prog) (w := w) (base := base) T quietE D_check_joined D_other_ends G_other_ends
  have G_check_tolls := ok_check_tolls (P := l.prog) (w := w) (base := base) T quietE D_check_tolls
  have G_Web_init := ok_Web___init__ (P := l.prog) (w := w) (base := base) T quietE F_Web___init__ D_check_counts G_check_counts D_check_ends G_check_ends D_check_joined G_check_joined D_check_tolls G_check_tolls
  have G_law_tolls := ok_law_tolls (P := l.prog) (w := w) (base := base) T quietE D_law_tolls
  have G_law_brought_to := ok_law_brought_to (P := l.prog) (w := w) (base := base) T quietE D_law_brought_to
  have G_law_cell := ok_law_cell (P := l.prog) (w := w) (base := base) T quietE D_law_cell
  have G_law_down := ok_law_down (P := l.prog) (w := w) (base := base) T quietE D_law_down
  have G_law_fewer := ok_law_fewer (P := l.prog) (w := w) (base := base) T quietE D_law_fewer
  have G_law_load := ok_law_load (P := l.prog) (w := w) (base := base) T quietE D_law_load
  have G_law_mixed := ok_law_mixed (P := l.prog) (w := w) (base := base) T quietE D_law_mixed
  have G_law_numbers := ok_law_numbers (P := l.prog) (w := w) (base := base) T quietE D_law_numbers D_law_cell G_law_cell D_law_mixed G_law_mixed
  have G_law_parted := ok_law_parted (P := l.prog) (w := w) (base := base) T quietE D_law_parted
  have G_law_slack := ok_law_slack (P := l.prog) (w := w) (base := base) T quietE D_law_slack
  have G_law_least := ok_law_least (P := l.prog) (w := w) (base := base) T quietE D_law_least
  have G_law_spread := ok_law_spread (P := l.prog) (w := w) (base := base) T quietE D_law_spread D_law_least G_law_least
  have G_law_wanted := ok_law_wanted (P := l.prog) (w := w) (base := base) T quietE D_law_wanted
  have G_law_toll := ok_law_toll (P := l.prog) (w := w) (base := base) T quietE D_law_toll
  have G_law_web := ok_law_web (P := l.prog) (w := w) (base := base) T quietE D_law_web D_law_toll G_law_toll
  have G_check_place := ok_check_place (P := l.prog) (w := w) (base := base) T quietE D_check_place D_is_place G_is_place
  have G_check_wanted := ok_check_wanted (P := l.prog) (w := w) (base := base) T quietE D_check_wanted D_check_place G_check_place
  have G_neighbours := ok_neighbours (P := l.prog) (w := w) (base := base) T quietE D_neighbours D_check_place G_check_place D_other_ends G_other_ends
  have G_kids := ok_kids (P := l.prog) (w := w) (base := base) T quietE D_kids D_neighbours G_neighbours
  have G_ahead := ok_ahead (P := l.prog) (w := w) (base := base) T quietE D_ahead D_check_place G_check_place D_kids G_kids
  have G_down := ok_down (P := l.prog) (w := w) (base := base) T quietE D_down D_ahead G_ahead D_kids G_kids
  have G_inward := ok_inward (P := l.prog) (w := w) (base := base) T quietE D_inward D_ahead G_ahead D_down G_down
  have G_toll := ok_toll (P := l.prog) (w := w) (base := base) T quietE D_toll D_check_place G_check_place
  have G_bound_by := ok_bound_by (P := l.prog) (w := w) (base := base) T quietE D_bound_by D_check_wanted G_check_wanted D_inward G_inward D_toll G_toll
  have G_borne := ok_borne (P := l.prog) (w := w) (base := base) T quietE D_borne D_toll G_toll
  have G_least_weights := ok_least_weights (P := l.prog) (w := w) (base := base) T quietE D_least_weights D_borne G_borne D_inward G_inward
  have G_enough := ok_enough (P := l.prog) (w := w) (base := base) T quietE D_enough D_bound_by G_bound_by D_least_weights G_least_weights
  have G_weighed := ok_weighed (P := l.prog) (w := w) (base := base) T quietE D_weighed
  have G_law := ok_law (P := l.prog) (w := w) (base := base) T quietE D_law F_Web___init__ b_Web M_Web G_Web_init D_law_brought_to G_law_brought_to D_law_cell G_law_cell D_law_down G_law_down D_law_fewer G_law_fewer D_law_load G_law_load D_law_numbers G_law_numbers D_law_parted G_law_parted D_law_slack G_law_slack D_law_spread G_law_spread D_law_tolls G_law_tolls D_law_wanted G_law_wanted D_law_web G_law_web D_bound_by G_bound_by D_enough G_enough D_least_weights G_least_weights D_weighed G_weighed
  exact G_law
theorem walk {l : PySem.W.OpenLaw} {q : Program} {loose : List Str} {XP : (Str → Option Value) → Heap → Prop} {YP : World → Heap → Prop} {d : DefRec} {K : Params → PySem.W.Frag} (hn : l.most = some 63) (hdf : d.params.defaults = [])
    (hY : ∀ (w : World) (h : Heap), YP w h → (K w.params).In h)
    (F : ∀ (w : World) (mg : Str → Option Value) (fa : Addr) (h : Heap), (K w.params).In h → h.Ns mainGlobals mg → mg d.name = some (.ref fa) →
      ∃ fd : FuncData, (∀ (s : Shared) (u : Value), BindsTo s fd ⟨[u], []⟩ [("script", u)]) ∧ ∀ base : Heap, (K w.params).In base → base.Ns mainGlobals mg → FnOk l.prog w (K w.params) mg base (CXe l.prog w) 10 fa fd ["script"] (spLaw (K w.params))) :
    PySem.W.WalkO q loose XP YP l.row.toRowW d [] (fun f vs => PySem.call f vs) :=
  L2.walk_of (n := 63) (k := 10) (x := "script") (CX := fun w => (CXe l.prog w)) (sp := fun w => spLaw (K w.params)) hn (by decide) hdf ⟨rfl, by decide, by decide⟩ hY F (fun _ _ a ns hl _ hS => ⟨a, ns, rfl, hS, hl, fun _ => rfl⟩) fun _ _ _ _ _ z => quietE _ _ _ _ _ z
end Pk
open PySem PySem.W PyProof.Rows
set_option maxRecDepth 100000 in
set_option maxHeartbeats 0 in
theorem PySem.Challenge.cw_pebbletoll_k35_whole_always_enough_holds : PySem.Challenge.rw_pebbletoll_k35_whole_always_enough.Holds := by
  w_on; o_law
  refine PySem.W.holds_open (q := Hd.qq) (loose := []) (Xt := (fun s => PySem.W.xlAt Hd.qq [] s && PySem.W.recOk (PySem.W.RowW.records (PySem.W.OpenRow.toRowW (PySem.Challenge.rw_pebbletoll_k35_whole_always_enough).row)) s)) (XP := PySem.W.XL Hd.qq []) (Yf := PySem.W.Hook.obs (PySem.W.kHook Hd.KK Hd.asK Hd.asK_eq)) (Ya := PySem.W.Hook.val (PySem.W.kHook Hd.KK Hd.asK Hd.asK_eq)) (YP := PySem.W.Hook.says (PySem.W.kHook Hd.KK Hd.asK Hd.asK_eq)) (N := 4984) Hd.left (PySem.W.Hook.of (PySem.W.kHook Hd.KK Hd.asK Hd.asK_eq)) (PySem.W.Hook.keeps (PySem.W.kHook Hd.KK Hd.asK Hd.asK_eq)) (fun s e => PySem.W.xl_of s (Bool.and_eq_true_iff.mp e).1) PySem.W.XL.keeps (by rfl) (by rfl) (by rfl) (fun s e => PySem.W.recFacts_of (Bool.and_eq_true_iff.mp e).2) (by rfl) (by assumption) (by decide +kernel) ⟨rfl, rfl, rfl, rfl, rfl, by decide +kernel⟩ ?hw ?hc
  (case hw => w_witness2)
  k_fill
  refine Pk.walk (l := PySem.Challenge.rw_pebbletoll_k35_whole_always_enough) rfl rfl (fun w h Y => PySem.W.kIn_of Y) ?F
  case F =>
    intro w mg fa h KX G hmg
    refine' Pk.all_mk KX G hmg ?ac_BadWeb ?ac_NoPlace ?ac_NoRoad ?ac_BadWish ?ac_Web ?xl_NoPlace ?xe_NoPlace ?xf_NoPlace ?xj_NoPlace ?xp_NoPlace ?xl_NoRoad ?xe_NoRoad ?xf_NoRoad ?xj_NoRoad ?xp_NoRoad ?xl_BadWish ?xe_BadWish ?xf_BadWish ?xj_BadWish ?xp_BadWish ?a_check_counts ?l_check_counts ?c_check_counts ?k_check_counts ?a_is_place ?l_is_place ?c_is_place ?k_is_place ?a_check_ends ?l_check_ends ?c_check_ends ?k_check_ends ?a_other_ends ?l_other_ends ?c_other_ends ?k_other_ends ?a_check_joined ?l_check_joined ?c_check_joined ?k_check_joined ?a_check_tolls ?l_check_tolls ?c_check_tolls ?k_check_tolls ?a_Web___init__ ?i_Web___init__ ?l_Web___init__ ?c_Web___init__ ?k_Web___init__ ?a_law_tolls ?l_law_tolls ?c_law_tolls ?k_law_tolls ?a_law_brought_to ?l_law_brought_to ?c_law_brought_to ?k_law_brought_to ?a_law_cell ?l_law_cell ?c_law_cell ?k_law_cell ?a_law_down ?l_law_down ?c_law_down ?k_law_down ?a_law_fewer ?l_law_fewer ?c_law_fewer ?k_law_fewer ?a_law_load ?l_law_load ?c_law_load ?k_law_load ?a_law_mixed ?l_law_mixed ?c_law_mixed ?k_law_mixed ?a_law_numbers ?l_law_numbers ?c_law_numbers ?k_law_numbers ?a_law_parted ?l_law_parted ?c_law_parted ?k_law_parted ?a_law_slack ?l_law_slack ?c_law_slack ?k_law_slack ?a_law_least ?l_law_least ?c_law_least ?k_law_least ?a_law_spread ?l_law_spread ?c_law_spread ?k_law_spread ?a_law_wanted ?l_law_wanted ?c_law_wanted ?k_law_wanted ?a_law_toll ?l_law_toll ?c_law_toll ?k_law_toll ?a_law_web ?l_law_web ?c_law_web ?k_law_web ?a_check_place ?l_check_place ?c_check_place ?k_check_place ?a_check_wanted ?l_check_wanted ?c_check_wanted ?k_check_wanted ?a_neighbours ?l_neighbours ?c_neighbours ?k_neighbours ?a_kids ?l_kids ?c_kids ?k_kids ?a_ahead ?l_ahead ?c_ahead ?k_ahead ?a_down ?l_down ?c_down ?k_down ?a_inward ?l_inward ?c_inward ?k_inward ?a_toll ?l_toll ?c_toll ?k_toll ?a_bound_by ?l_bound_by ?c_bound_by ?k_bound_by ?a_borne ?l_borne ?c_borne ?k_borne ?a_least_weights ?l_least_weights ?c_least_weights ?k_least_weights ?a_enough ?l_enough ?c_enough ?k_enough ?a_weighed ?l_weighed ?c_weighed ?k_weighed ?a_law ?l_law ?c_law ?k_law ?pg_Web ?hd_Web ?po_Web ?sa_Web ?mk_Web ?kc_Web ?nm_Web ?nr_Web ?z_range ?z_zip ?z_len ?z_all ?z_int ?z_tuple ?z_list ?z_reversed ?z_sorted ?z_min ?z_max ?z_sum ?v_MOST_PLACES ?v_LEAST_TOLL ?v_MOST_TOLL
    (case ac_BadWeb => k_is)
    (case ac_NoPlace => k_is)
    (case ac_NoRoad => k_is)
    (case ac_BadWish => k_is)
    (case ac_Web => k_is)
    (case xl_NoPlace => k_is)
    (case xe_NoPlace => rfl)
    (case xf_NoPlace => kernel_rfl)
    (case xj_NoPlace => k_is)
    (case xp_NoPlace => kernel_rfl)
    (case xl_NoRoad => k_is)
    (case xe_NoRoad => rfl)
    (case xf_NoRoad => kernel_rfl)
    (case xj_NoRoad => k_is)
    (case xp_NoRoad => kernel_rfl)
    (case xl_BadWish => k_is)
    (case xe_BadWish => rfl)
    (case xf_BadWish => kernel_rfl)
    (case xj_BadWish => k_is)
    (case xp_BadWish => kernel_rfl)
    (case a_check_counts => k_is)
    (case l_check_counts => k_is)
    (case c_check_counts => k_is)
    (case k_check_counts => k_is)
    (case a_is_place => k_is)
    (case l_is_place => k_is)
    (case c_is_place => k_is)
    (case k_is_place => k_is)
    (case a_check_ends => k_is)
    (case l_check_ends => k_is)
    (case c_check_ends => k_is)
    (case k_check_ends => k_is)
    (case a_other_ends => k_is)
    (case l_other_ends => k_is)
    (case c_other_ends => k_is)
    (case k_other_ends => k_is)
    (case a_check_joined => k_is)
    (case l_check_joined => k_is)
    (case c_check_joined => k_is)
    (case k_check_joined => k_is)
    (case a_check_tolls => k_is)
    (case l_check_tolls => k_is)
    (case c_check_tolls => k_is)
    (case k_check_tolls => k_is)
    (case a_Web___init__ => k_is)
    (case i_Web___init__ => k_is)
    (case l_Web___init__ => k_is)
    (case c_Web___init__ => k_is)
    (case k_Web___init__ => k_is)
    (case a_law_tolls => k_is)
    (case l_law_tolls => k_is)
    (case c_law_tolls => k_is)
    (case k_law_tolls => k_is)
    (case a_law_brought_to => k_is)
    (case l_law_brought_to => k_is)
    (case c_law_brought_to => k_is)
    (case k_law_brought_to => k_is)
    (case a_law_cell => k_is)
    (case l_law_cell => k_is)
    (case c_law_cell => k_is)
    (case k_law_cell => k_is)
    (case a_law_down => k_is)
    (case l_law_down => k_is)
    (case c_law_down => k_is)
    (case k_law_down => k_is)
    (case a_law_fewer => k_is)
    (case l_law_fewer => k_is)
    (case c_law_fewer => k_is)
    (case k_law_fewer => k_is)
    (case a_law_load => k_is)
    (case l_law_load => k_is)
    (case c_law_load => k_is)
    (case k_law_load => k_is)
    (case a_law_mixed => k_is)
    (case l_law_mixed => k_is)
    (case c_law_mixed => k_is)
    (case k_law_mixed => k_is)
    (case a_law_numbers => k_is)
    (case l_law_numbers => k_is)
    (case c_law_numbers => k_is)
    (case k_law_numbers => k_is)
    (case a_law_parted => k_is)
    (case l_law_parted => k_is)
    (case c_law_parted => k_is)
    (case k_law_parted => k_is)
    (case a_law_slack => k_is)
    (case l_law_slack => k_is)
    (case c_law_slack => k_is)
    (case k_law_slack => k_is)
    (case a_law_least => k_is)
    (case l_law_least => k_is)
    (case c_law_least => k_is)
    (case k_law_least => k_is)
    (case a_law_spread => k_is)
    (case l_law_spread => k_is)
    (case c_law_spread => k_is)
    (case k_law_spread => k_is)
    (case a_law_wanted => k_is)
    (case l_law_wanted => k_is)
    (case c_law_wanted => k_is)
    (case k_law_wanted => k_is)
    (case a_law_toll => k_is)
    (case l_law_toll => k_is)
    (case c_law_toll => k_is)
    (case k_law_toll => k_is)
    (case a_law_web => k_is)
    (case l_law_web => k_is)
    (case c_law_web => k_is)
    (case k_law_web => k_is)
    (case a_check_place => k_is)
    (case l_check_place => k_is)
    (case c_check_place => k_is)
    (case k_check_place => k_is)
    (case a_check_wanted => k_is)
    (case l_check_wanted => k_is)
    (case c_check_wanted => k_is)
    (case k_check_wanted => k_is)
    (case a_neighbours => k_is)
    (case l_neighbours => k_is)
    (case c_neighbours => k_is)
    (case k_neighbours => k_is)
    (case a_kids => k_is)
    (case l_kids => k_is)
    (case c_kids => k_is)
    (case k_kids => k_is)
    (case a_ahead => k_is)
    (case l_ahead => k_is)
    (case c_ahead => k_is)
    (case k_ahead => k_is)
    (case a_down => k_is)
    (case l_down => k_is)
    (case c_down => k_is)
    (case k_down => k_is)
    (case a_inward => k_is)
    (case l_inward => k_is)
    (case c_inward => k_is)
    (case k_inward => k_is)
    (case a_toll => k_is)
    (case l_toll => k_is)
    (case c_toll => k_is)
    (case k_toll => k_is)
    (case a_bound_by => k_is)
    (case l_bound_by => k_is)
    (case c_bound_by => k_is)
    (case k_bound_by => k_is)
    (case a_borne => k_is)
    (case l_borne => k_is)
    (case c_borne => k_is)
    (case k_borne => k_is)
    (case a_least_weights => k_is)
    (case l_least_weights => k_is)
    (case c_least_weights => k_is)
    (case k_least_weights => k_is)
    (case a_enough => k_is)
    (case l_enough => k_is)
    (case c_enough => k_is)
    (case k_enough => k_is)
    (case a_weighed => k_is)
    (case l_weighed => k_is)
    (case c_weighed => k_is)
    (case k_weighed => k_is)
    (case a_law => k_is)
    (case l_law => k_is)
    (case c_law => k_is)
    (case k_law => k_is)
    (case pg_Web => k_is)
    (case hd_Web => k_is)
    (case po_Web => k_is)
    (case sa_Web => k_is)
    (case mk_Web => k_is)
    (case kc_Web => k_is)
    (case nm_Web => k_is)
    (case nr_Web => k_is)
    (case z_range => k_is)
    (case z_zip => k_is)
    (case z_len => k_is)
    (case z_all => k_is)
    (case z_int => k_is)
    (case z_tuple => k_is)
    (case z_list => k_is)
    (case z_reversed => k_is)
    (case z_sorted => k_is)
    (case z_min => k_is)
    (case z_max => k_is)
    (case z_sum => k_is)
    (case v_MOST_PLACES => k_is)
    (case v_LEAST_TOLL => k_is)
    (case v_MOST_TOLL => k_is)
#print axioms PySem.Challenge.cw_pebbletoll_k35_whole_always_enough_holds
